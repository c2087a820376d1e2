/-
  Small laws of slices whose elements have several cells each, whatever the program.
-/
import Derived.Test.YtpajidiobifjoaaLib
namespace Go.Proofs.Ytpajidiobifjoaa
open Go.RowKit
set_option linter.unusedVariables false

/-- A slice of elements of c cells each that reads, in w, as es: the cells of each element. -/
def SeesC (w : World) (c : Nat) (v : Value) (es : List (List Value)) : Prop :=
  (v = .slice none 0 0 ∧ es = []) ∨
  ∃ x cap, v = .slice (some x) es.length cap ∧ es.length ≤ cap ∧ cap ≤ maxLen ∧ ∀ i, i < es.length → ∀ j, j < c → w.cell? (x.add (i * c + j)) = some ((es.getD i []).getD j .nilIface)

theorem SeesC.nil (w : World) (c : Nat) : SeesC w c (.slice none 0 0) [] := .inl ⟨rfl, rfl⟩

theorem SeesC.le {w : World} {c : Nat} {v : Value} {es : List (List Value)} (h : SeesC w c v es) : es.length ≤ maxLen := by
  rcases h with ⟨_, rfl⟩ | ⟨x, cap, _, h1, h2, _⟩
  · simp
  · omega

/-- Its form: where there is an element, it has an address without a spot, and the cells lie there. -/
theorem SeesC.form {w : World} {c : Nat} (hc0 : 0 < c) {v : Value} {es : List (List Value)} (h : SeesC w c v es) : ∃ a cap, v = .slice a es.length cap ∧ es.length ≤ cap ∧ cap ≤ maxLen ∧
    (0 < es.length → ∃ b off, a = some ⟨b, off, none⟩ ∧ b < w.heap.size ∧ ∀ i, i < es.length → ∀ j, j < c → w.cell? ⟨b, off + (i * c + j), none⟩ = some ((es.getD i []).getD j .nilIface)) := by
  rcases h with ⟨rfl, rfl⟩ | ⟨x, cap, rfl, h1, h2, hc⟩
  · exact ⟨none, 0, rfl, by simp, by simp, by simp⟩
  · refine ⟨some x, cap, rfl, h1, h2, fun hp => ?_⟩
    obtain ⟨b, off, spot⟩ := x
    have h0 := hc 0 hp 0 hc0
    have hspot : spot = none := by simpa [Addr.add] using World.cell?_spot h0
    subst hspot
    refine ⟨b, off, rfl, ?_, fun i hi j hj => by rw [← add_none]; exact hc i hi j hj⟩
    have := World.block_lt_of_cell? w _ h0
    rw [add_none] at this
    exact this

theorem SeesC.below {w w' : World} {c : Nat} {v : Value} {es : List (List Value)} (h : SeesC w c v es) (hb : Below w.heap.size w w') : SeesC w' c v es := by
  rcases h with h | ⟨x, cap, hv, h1, h2, hc⟩
  · exact .inl h
  · refine .inr ⟨x, cap, hv, h1, h2, fun i hi j hj => ?_⟩
    have := hc i hi j hj
    rw [hb.cell (by exact World.block_lt_of_cell? w _ this)]
    exact this

theorem flat_get (c : Nat) (es : List (List Value)) (hl : ∀ e ∈ es, e.length = c) (i j : Nat) (hi : i < es.length) (hj : j < c) : es.flatten[i * c + j]? = some ((es.getD i []).getD j .nilIface) := by
  induction es generalizing i with
  | nil => simp at hi
  | cons e es ih =>
    have he : e.length = c := hl e (by simp)
    rw [List.flatten_cons]
    cases i with
    | zero =>
      rw [Nat.zero_mul, Nat.zero_add, List.getElem?_append_left (by omega)]
      simp [List.getD, List.getElem?_eq_getElem (show j < e.length by omega)]
    | succ i =>
      rw [List.getElem?_append_right (by rw [he, Nat.succ_mul]; omega)]
      rw [show (i + 1) * c + j - e.length = i * c + j by rw [he, Nat.succ_mul]; omega]
      rw [ih (fun e h => hl e (by simp [h])) i (by simpa using hi)]
      simp [List.getD]

theorem flat_len (c : Nat) (es : List (List Value)) (hl : ∀ e ∈ es, e.length = c) : es.flatten.length = es.length * c := by
  induction es with
  | nil => simp
  | cons e es ih => rw [List.flatten_cons, List.length_append, hl e (by simp), ih (fun e h => hl e (by simp [h])), List.length_cons, Nat.succ_mul]; omega

/-- Of a row that is owned. -/
theorem SeesC.of_owns {w : World} {base : Nat} {e : TypeId} {c : Nat} {v : Value} {n : Nat} {es : List (List Value)} (hl : ∀ e ∈ es, e.length = c) (hn : n = es.length) (h : w.ownsRow base e c v n es.flatten) : SeesC w c v es := by
  obtain ⟨hl2, h⟩ := h
  subst hn
  rcases h with ⟨hv, h0⟩ | ⟨g, cap, cur, hv, hg, hh, hc, hm, hs, ht⟩
  · exact .inl ⟨hv, List.eq_nil_of_length_eq_zero h0⟩
  · refine .inr ⟨⟨g, 0, none⟩, cap, hv, hc, hm, fun i hi j hj => ?_⟩
    have hlt : i * c + j < es.length * c := by
      have : (i + 1) * c ≤ es.length * c := Nat.mul_le_mul_right c hi
      rw [Nat.succ_mul] at this
      omega
    have h2 : cur.toList[i * c + j]? = some ((es.getD i []).getD j .nilIface) := by
      have : (cur.toList.take (es.length * c))[i * c + j]? = es.flatten[i * c + j]? := by rw [ht]
      rw [List.getElem?_take_of_lt hlt] at this
      rw [this, flat_get c es hl i j hi hj]
    rw [add_none]
    simp [World.cell?, hh]
    simpa using h2

/-- What is left of a slice behind its first n elements. -/
theorem SeesC.dropped {w : World} {c b off cap : Nat} {es : List (List Value)} (n : Nat) (hn : n ≤ es.length) (h1 : es.length ≤ cap) (h2 : cap ≤ maxLen)
    (hc : ∀ i, i < es.length → ∀ j, j < c → w.cell? ⟨b, off + (i * c + j), none⟩ = some ((es.getD i []).getD j .nilIface)) :
    SeesC w c (.slice (if cap = n then some ⟨b, off, none⟩ else some ⟨b, off + n * c, none⟩) (es.length - n) (cap - n)) (es.drop n) := by
  by_cases h : cap = n
  · rw [if_pos h]
    refine .inr ⟨_, cap - n, by rw [List.length_drop], by rw [List.length_drop]; omega, by omega, fun i hi => ?_⟩
    rw [List.length_drop] at hi
    omega
  · rw [if_neg h]
    refine .inr ⟨_, cap - n, by rw [List.length_drop], by rw [List.length_drop]; omega, by omega, fun i hi j hj => ?_⟩
    rw [List.length_drop] at hi
    rw [add_none, show off + n * c + (i * c + j) = off + ((n + i) * c + j) by rw [Nat.add_mul]; omega, hc (n + i) (by omega) j hj]
    simp [List.getD]

/-- The first n elements of a slice. -/
theorem SeesC.taken {w : World} {c b off cap : Nat} {es : List (List Value)} (n : Nat) (hn : n ≤ es.length) (h1 : es.length ≤ cap) (h2 : cap ≤ maxLen)
    (hc : ∀ i, i < es.length → ∀ j, j < c → w.cell? ⟨b, off + (i * c + j), none⟩ = some ((es.getD i []).getD j .nilIface)) :
    SeesC w c (.slice (some ⟨b, off, none⟩) n cap) (es.take n) := by
  have hl : (es.take n).length = n := by simp; omega
  refine .inr ⟨_, cap, by rw [hl], by omega, h2, fun i hi j hj => ?_⟩
  rw [add_none, hc i (by omega) j hj]
  simp [List.getD, List.getElem?_take_of_lt (show i < n by omega)]

/-- The cells of a slice that is seen, as the laws on append ask for them. -/
theorem SeesC.cells {w : World} {c : Nat} {x : Addr} {es : List (List Value)} (hl : ∀ e ∈ es, e.length = c)
    (hc : ∀ i, i < es.length → ∀ j, j < c → w.cell? (x.add (i * c + j)) = some ((es.getD i []).getD j .nilIface)) :
    ∀ j u, es.flatten[j]? = some u → w.cell? (x.add j) = some u := by
  intro j u hj
  have hlen := flat_len c es hl
  have hjl : j < es.flatten.length := by
    rcases Nat.lt_or_ge j es.flatten.length with h | h
    · exact h
    · simp [List.getElem?_eq_none h] at hj
  rcases Nat.eq_zero_or_pos c with h0 | hc0
  · subst h0; omega
  have hd : j / c < es.length := by
    rw [hlen] at hjl
    exact Nat.div_lt_of_lt_mul (by rw [Nat.mul_comm]; exact hjl)
  have hm : j % c < c := Nat.mod_lt _ hc0
  have he : j / c * c + j % c = j := by have := Nat.div_add_mod j c; rw [Nat.mul_comm] at this; exact this
  have h1 := hc (j / c) hd (j % c) hm
  rw [he] at h1
  have h2 := flat_get c es hl (j / c) (j % c) hd hm
  rw [he, hj] at h2
  rw [h1, h2]
end Go.Proofs.Ytpajidiobifjoaa
