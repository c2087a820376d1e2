/-
  A partition, as it lies in a world, with its lists, and the lists in these, whatever the program.
-/
import Derived.Test.YtdanfnbclbiidaaTReg
import Derived.Test.YtdanfnbclbiidaaPReg
namespace Go.Proofs.Ytdanfnbclbiidaa
open Go.RowKit
set_option linter.unusedVariables false

/-- One who waits. -/
structure Wt where
  p : Int
  r : Int
  v : Int
def Wt.zero : Wt := ⟨0, 0, 0⟩
def Wt.val (r : Wt) : Value := .agg #[.int .i64 r.p, .int .i64 r.r, .int .i64 r.v]
def Wt.cells (r : Wt) : List Value := [.int .i64 r.p, .int .i64 r.r, .int .i64 r.v]

/-- A slice of these that reads, in w, as l. -/
def SeesWt (w : World) (v : Value) (l : List Wt) : Prop := SeesC w 3 v (l.map Wt.cells)
theorem SeesWt.nil (w : World) : SeesWt w (.slice none 0 0) [] := SeesC.nil _ _
theorem SeesWt.below {w w' : World} {v : Value} {l : List Wt} (h : SeesWt w v l) (hb : Below w.heap.size w w') : SeesWt w' v l := SeesC.below h hb
theorem SeesWt.le {w : World} {v : Value} {l : List Wt} (h : SeesWt w v l) : l.length ≤ maxLen := by have := SeesC.le h; simpa using this
theorem cells_getDWt (l : List Wt) (i : Nat) (hi : i < l.length) : (l.map Wt.cells).getD i [] = (l.getD i Wt.zero).cells := by
  simp [List.getD, List.getElem?_eq_getElem hi]
theorem SeesWt.form {w : World} {v : Value} {l : List Wt} (h : SeesWt w v l) : ∃ a cap, v = .slice a l.length cap ∧ l.length ≤ cap ∧ cap ≤ maxLen ∧
    (0 < l.length → ∃ b off, a = some ⟨b, off, none⟩ ∧ b < w.heap.size ∧ ∀ i, i < l.length → ∀ j, j < 3 → w.cell? ⟨b, off + i * 3 + j, none⟩ = some ((l.getD i Wt.zero).cells.getD j .nilIface)) := by
  obtain ⟨a, cap, h1, h2, h3, h4⟩ := SeesC.form (by decide) h
  simp only [List.length_map] at h1 h2 h4
  refine ⟨a, cap, h1, h2, h3, fun hp => ?_⟩
  obtain ⟨b, off, ha, hb, hc⟩ := h4 hp
  refine ⟨b, off, ha, hb, fun i hi j hj => ?_⟩
  have h0 := hc i hi j hj
  rw [cells_getDWt l i hi] at h0
  rw [Nat.add_assoc]
  exact h0
theorem lensWt (l : List Wt) : ∀ e ∈ l.map Wt.cells, e.length = 3 := fun e he => by obtain ⟨x, _, rfl⟩ := List.mem_map.1 he; rfl
theorem SeesWt.owned {w : World} {base : Nat} {e : TypeId} {v : Value} {n : Nat} {l : List Wt} (hn : n = l.length) (h : w.ownsRow base e 3 v n (l.map Wt.cells).flatten) : SeesWt w v l :=
  SeesC.of_owns (lensWt l) (by simp [hn]) h
theorem flatWt (l : List Wt) : (l.map Wt.cells).flatten.length = l.length * 3 := by rw [flat_len 3 _ (lensWt l), List.length_map]
theorem oneWt (l : List Wt) : ∀ u ∈ (l.map Wt.cells).flatten, u.oneCell' = true := by
  intro u hu
  obtain ⟨e, he, hu⟩ := List.mem_flatten.1 hu
  obtain ⟨x, _, rfl⟩ := List.mem_map.1 he
  simp only [Wt.cells, List.mem_cons, List.not_mem_nil, or_false] at hu
  rcases hu with rfl | rfl | rfl <;> rfl

/-- A sampling port. -/
structure Sp where
  is : Bool
  v : Int
  t : Int
def Sp.zero : Sp := ⟨false, 0, 0⟩
def Sp.val (r : Sp) : Value := .agg #[.bool r.is, .int .i64 r.v, .int .i64 r.t]
def Sp.cells (r : Sp) : List Value := [.bool r.is, .int .i64 r.v, .int .i64 r.t]

/-- A slice of these that reads, in w, as l. -/
def SeesSp (w : World) (v : Value) (l : List Sp) : Prop := SeesC w 3 v (l.map Sp.cells)
theorem SeesSp.nil (w : World) : SeesSp w (.slice none 0 0) [] := SeesC.nil _ _
theorem SeesSp.below {w w' : World} {v : Value} {l : List Sp} (h : SeesSp w v l) (hb : Below w.heap.size w w') : SeesSp w' v l := SeesC.below h hb
theorem SeesSp.le {w : World} {v : Value} {l : List Sp} (h : SeesSp w v l) : l.length ≤ maxLen := by have := SeesC.le h; simpa using this
theorem cells_getDSp (l : List Sp) (i : Nat) (hi : i < l.length) : (l.map Sp.cells).getD i [] = (l.getD i Sp.zero).cells := by
  simp [List.getD, List.getElem?_eq_getElem hi]
theorem SeesSp.form {w : World} {v : Value} {l : List Sp} (h : SeesSp w v l) : ∃ a cap, v = .slice a l.length cap ∧ l.length ≤ cap ∧ cap ≤ maxLen ∧
    (0 < l.length → ∃ b off, a = some ⟨b, off, none⟩ ∧ b < w.heap.size ∧ ∀ i, i < l.length → ∀ j, j < 3 → w.cell? ⟨b, off + i * 3 + j, none⟩ = some ((l.getD i Sp.zero).cells.getD j .nilIface)) := by
  obtain ⟨a, cap, h1, h2, h3, h4⟩ := SeesC.form (by decide) h
  simp only [List.length_map] at h1 h2 h4
  refine ⟨a, cap, h1, h2, h3, fun hp => ?_⟩
  obtain ⟨b, off, ha, hb, hc⟩ := h4 hp
  refine ⟨b, off, ha, hb, fun i hi j hj => ?_⟩
  have h0 := hc i hi j hj
  rw [cells_getDSp l i hi] at h0
  rw [Nat.add_assoc]
  exact h0
theorem lensSp (l : List Sp) : ∀ e ∈ l.map Sp.cells, e.length = 3 := fun e he => by obtain ⟨x, _, rfl⟩ := List.mem_map.1 he; rfl
theorem SeesSp.owned {w : World} {base : Nat} {e : TypeId} {v : Value} {n : Nat} {l : List Sp} (hn : n = l.length) (h : w.ownsRow base e 3 v n (l.map Sp.cells).flatten) : SeesSp w v l :=
  SeesC.of_owns (lensSp l) (by simp [hn]) h
theorem flatSp (l : List Sp) : (l.map Sp.cells).flatten.length = l.length * 3 := by rw [flat_len 3 _ (lensSp l), List.length_map]
theorem oneSp (l : List Sp) : ∀ u ∈ (l.map Sp.cells).flatten, u.oneCell' = true := by
  intro u hu
  obtain ⟨e, he, hu⟩ := List.mem_flatten.1 hu
  obtain ⟨x, _, rfl⟩ := List.mem_map.1 he
  simp only [Sp.cells, List.mem_cons, List.not_mem_nil, or_false] at hu
  rcases hu with rfl | rfl | rfl <;> rfl

/-- A board, its value. -/
structure BdV where
  is : Bool
  v : Int
  l : Sl
def BdV.zero : BdV := ⟨false, 0, ⟨none, 0, 0⟩⟩
def BdV.val (r : BdV) : Value := .agg #[.bool r.is, .int .i64 r.v, .slice r.l.a r.l.n r.l.c]
def BdV.cells (r : BdV) : List Value := [.bool r.is, .int .i64 r.v, .slice r.l.a r.l.n r.l.c]

/-- A slice of these that reads, in w, as l. -/
def SeesBdV (w : World) (v : Value) (l : List BdV) : Prop := SeesC w 3 v (l.map BdV.cells)
theorem SeesBdV.nil (w : World) : SeesBdV w (.slice none 0 0) [] := SeesC.nil _ _
theorem SeesBdV.below {w w' : World} {v : Value} {l : List BdV} (h : SeesBdV w v l) (hb : Below w.heap.size w w') : SeesBdV w' v l := SeesC.below h hb
theorem SeesBdV.le {w : World} {v : Value} {l : List BdV} (h : SeesBdV w v l) : l.length ≤ maxLen := by have := SeesC.le h; simpa using this
theorem cells_getDBdV (l : List BdV) (i : Nat) (hi : i < l.length) : (l.map BdV.cells).getD i [] = (l.getD i BdV.zero).cells := by
  simp [List.getD, List.getElem?_eq_getElem hi]
theorem SeesBdV.form {w : World} {v : Value} {l : List BdV} (h : SeesBdV w v l) : ∃ a cap, v = .slice a l.length cap ∧ l.length ≤ cap ∧ cap ≤ maxLen ∧
    (0 < l.length → ∃ b off, a = some ⟨b, off, none⟩ ∧ b < w.heap.size ∧ ∀ i, i < l.length → ∀ j, j < 3 → w.cell? ⟨b, off + i * 3 + j, none⟩ = some ((l.getD i BdV.zero).cells.getD j .nilIface)) := by
  obtain ⟨a, cap, h1, h2, h3, h4⟩ := SeesC.form (by decide) h
  simp only [List.length_map] at h1 h2 h4
  refine ⟨a, cap, h1, h2, h3, fun hp => ?_⟩
  obtain ⟨b, off, ha, hb, hc⟩ := h4 hp
  refine ⟨b, off, ha, hb, fun i hi j hj => ?_⟩
  have h0 := hc i hi j hj
  rw [cells_getDBdV l i hi] at h0
  rw [Nat.add_assoc]
  exact h0
theorem lensBdV (l : List BdV) : ∀ e ∈ l.map BdV.cells, e.length = 3 := fun e he => by obtain ⟨x, _, rfl⟩ := List.mem_map.1 he; rfl
theorem SeesBdV.owned {w : World} {base : Nat} {e : TypeId} {v : Value} {n : Nat} {l : List BdV} (hn : n = l.length) (h : w.ownsRow base e 3 v n (l.map BdV.cells).flatten) : SeesBdV w v l :=
  SeesC.of_owns (lensBdV l) (by simp [hn]) h
theorem flatBdV (l : List BdV) : (l.map BdV.cells).flatten.length = l.length * 3 := by rw [flat_len 3 _ (lensBdV l), List.length_map]
theorem oneBdV (l : List BdV) : ∀ u ∈ (l.map BdV.cells).flatten, u.oneCell' = true := by
  intro u hu
  obtain ⟨e, he, hu⟩ := List.mem_flatten.1 hu
  obtain ⟨x, _, rfl⟩ := List.mem_map.1 he
  simp only [BdV.cells, List.mem_cons, List.not_mem_nil, or_false] at hu
  rcases hu with rfl | rfl | rfl <;> rfl

/-- A board. -/
structure Bd where
  is : Bool
  v : Int
  l : List Wt
def Bd.zero : Bd := ⟨false, 0, []⟩

/-- A value that reads, in w, as x. -/
structure BdAt (w : World) (q : BdV) (x : Bd) : Prop where
  is : q.is = x.is
  v : q.v = x.v
  l : SeesWt w q.l.val x.l
theorem BdAt.below {w w' : World} {q : BdV} {x : Bd} (h : BdAt w q x) (hb : Below w.heap.size w w') : BdAt w' q x := ⟨h.is, h.v, h.l.below hb⟩

/-- A slice of these that reads, in w, as l. -/
def LBd (w : World) (v : Value) (l : List Bd) : Prop := ∃ rs : List BdV, SeesBdV w v rs ∧ rs.length = l.length ∧ ∀ i, i < rs.length → BdAt w (rs.getD i BdV.zero) (l.getD i Bd.zero)
theorem LBd.nil (w : World) : LBd w (.slice none 0 0) [] := ⟨[], SeesBdV.nil w, rfl, fun i hi => absurd hi (Nat.not_lt_zero _)⟩
theorem LBd.below {w w' : World} {v : Value} {l : List Bd} (h : LBd w v l) (hb : Below w.heap.size w w') : LBd w' v l := by
  obtain ⟨rs, a, b, c⟩ := h
  exact ⟨rs, a.below hb, b, fun i hi => (c i hi).below hb⟩
theorem LBd.le {w : World} {v : Value} {l : List Bd} (h : LBd w v l) : l.length ≤ maxLen := by
  obtain ⟨rs, a, b, c⟩ := h
  rw [← b]; exact a.le

/-- A buffer, its value. -/
structure BfV where
  d : Int
  k : Bool
  vs : Sl
  l : Sl
def BfV.zero : BfV := ⟨0, false, ⟨none, 0, 0⟩, ⟨none, 0, 0⟩⟩
def BfV.val (r : BfV) : Value := .agg #[.int .i64 r.d, .bool r.k, .slice r.vs.a r.vs.n r.vs.c, .slice r.l.a r.l.n r.l.c]
def BfV.cells (r : BfV) : List Value := [.int .i64 r.d, .bool r.k, .slice r.vs.a r.vs.n r.vs.c, .slice r.l.a r.l.n r.l.c]

/-- A slice of these that reads, in w, as l. -/
def SeesBfV (w : World) (v : Value) (l : List BfV) : Prop := SeesC w 4 v (l.map BfV.cells)
theorem SeesBfV.nil (w : World) : SeesBfV w (.slice none 0 0) [] := SeesC.nil _ _
theorem SeesBfV.below {w w' : World} {v : Value} {l : List BfV} (h : SeesBfV w v l) (hb : Below w.heap.size w w') : SeesBfV w' v l := SeesC.below h hb
theorem SeesBfV.le {w : World} {v : Value} {l : List BfV} (h : SeesBfV w v l) : l.length ≤ maxLen := by have := SeesC.le h; simpa using this
theorem cells_getDBfV (l : List BfV) (i : Nat) (hi : i < l.length) : (l.map BfV.cells).getD i [] = (l.getD i BfV.zero).cells := by
  simp [List.getD, List.getElem?_eq_getElem hi]
theorem SeesBfV.form {w : World} {v : Value} {l : List BfV} (h : SeesBfV w v l) : ∃ a cap, v = .slice a l.length cap ∧ l.length ≤ cap ∧ cap ≤ maxLen ∧
    (0 < l.length → ∃ b off, a = some ⟨b, off, none⟩ ∧ b < w.heap.size ∧ ∀ i, i < l.length → ∀ j, j < 4 → w.cell? ⟨b, off + i * 4 + j, none⟩ = some ((l.getD i BfV.zero).cells.getD j .nilIface)) := by
  obtain ⟨a, cap, h1, h2, h3, h4⟩ := SeesC.form (by decide) h
  simp only [List.length_map] at h1 h2 h4
  refine ⟨a, cap, h1, h2, h3, fun hp => ?_⟩
  obtain ⟨b, off, ha, hb, hc⟩ := h4 hp
  refine ⟨b, off, ha, hb, fun i hi j hj => ?_⟩
  have h0 := hc i hi j hj
  rw [cells_getDBfV l i hi] at h0
  rw [Nat.add_assoc]
  exact h0
theorem lensBfV (l : List BfV) : ∀ e ∈ l.map BfV.cells, e.length = 4 := fun e he => by obtain ⟨x, _, rfl⟩ := List.mem_map.1 he; rfl
theorem SeesBfV.owned {w : World} {base : Nat} {e : TypeId} {v : Value} {n : Nat} {l : List BfV} (hn : n = l.length) (h : w.ownsRow base e 4 v n (l.map BfV.cells).flatten) : SeesBfV w v l :=
  SeesC.of_owns (lensBfV l) (by simp [hn]) h
theorem flatBfV (l : List BfV) : (l.map BfV.cells).flatten.length = l.length * 4 := by rw [flat_len 4 _ (lensBfV l), List.length_map]
theorem oneBfV (l : List BfV) : ∀ u ∈ (l.map BfV.cells).flatten, u.oneCell' = true := by
  intro u hu
  obtain ⟨e, he, hu⟩ := List.mem_flatten.1 hu
  obtain ⟨x, _, rfl⟩ := List.mem_map.1 he
  simp only [BfV.cells, List.mem_cons, List.not_mem_nil, or_false] at hu
  rcases hu with rfl | rfl | rfl | rfl <;> rfl

/-- A buffer. -/
structure Bf where
  d : Int
  k : Bool
  vs : List Int
  l : List Wt
def Bf.zero : Bf := ⟨0, false, [], []⟩

/-- A value that reads, in w, as x. -/
structure BfAt (w : World) (q : BfV) (x : Bf) : Prop where
  d : q.d = x.d
  k : q.k = x.k
  vs : Sees w .i64 q.vs.val x.vs
  l : SeesWt w q.l.val x.l
theorem BfAt.below {w w' : World} {q : BfV} {x : Bf} (h : BfAt w q x) (hb : Below w.heap.size w w') : BfAt w' q x := ⟨h.d, h.k, h.vs.below hb, h.l.below hb⟩

/-- A slice of these that reads, in w, as l. -/
def LBf (w : World) (v : Value) (l : List Bf) : Prop := ∃ rs : List BfV, SeesBfV w v rs ∧ rs.length = l.length ∧ ∀ i, i < rs.length → BfAt w (rs.getD i BfV.zero) (l.getD i Bf.zero)
theorem LBf.nil (w : World) : LBf w (.slice none 0 0) [] := ⟨[], SeesBfV.nil w, rfl, fun i hi => absurd hi (Nat.not_lt_zero _)⟩
theorem LBf.below {w w' : World} {v : Value} {l : List Bf} (h : LBf w v l) (hb : Below w.heap.size w w') : LBf w' v l := by
  obtain ⟨rs, a, b, c⟩ := h
  exact ⟨rs, a.below hb, b, fun i hi => (c i hi).below hb⟩
theorem LBf.le {w : World} {v : Value} {l : List Bf} (h : LBf w v l) : l.length ≤ maxLen := by
  obtain ⟨rs, a, b, c⟩ := h
  rw [← b]; exact a.le

/-- A semaphore, its value. -/
structure SeV where
  c : Int
  m : Int
  k : Bool
  l : Sl
def SeV.zero : SeV := ⟨0, 0, false, ⟨none, 0, 0⟩⟩
def SeV.val (r : SeV) : Value := .agg #[.int .i64 r.c, .int .i64 r.m, .bool r.k, .slice r.l.a r.l.n r.l.c]
def SeV.cells (r : SeV) : List Value := [.int .i64 r.c, .int .i64 r.m, .bool r.k, .slice r.l.a r.l.n r.l.c]

/-- A slice of these that reads, in w, as l. -/
def SeesSeV (w : World) (v : Value) (l : List SeV) : Prop := SeesC w 4 v (l.map SeV.cells)
theorem SeesSeV.nil (w : World) : SeesSeV w (.slice none 0 0) [] := SeesC.nil _ _
theorem SeesSeV.below {w w' : World} {v : Value} {l : List SeV} (h : SeesSeV w v l) (hb : Below w.heap.size w w') : SeesSeV w' v l := SeesC.below h hb
theorem SeesSeV.le {w : World} {v : Value} {l : List SeV} (h : SeesSeV w v l) : l.length ≤ maxLen := by have := SeesC.le h; simpa using this
theorem cells_getDSeV (l : List SeV) (i : Nat) (hi : i < l.length) : (l.map SeV.cells).getD i [] = (l.getD i SeV.zero).cells := by
  simp [List.getD, List.getElem?_eq_getElem hi]
theorem SeesSeV.form {w : World} {v : Value} {l : List SeV} (h : SeesSeV w v l) : ∃ a cap, v = .slice a l.length cap ∧ l.length ≤ cap ∧ cap ≤ maxLen ∧
    (0 < l.length → ∃ b off, a = some ⟨b, off, none⟩ ∧ b < w.heap.size ∧ ∀ i, i < l.length → ∀ j, j < 4 → w.cell? ⟨b, off + i * 4 + j, none⟩ = some ((l.getD i SeV.zero).cells.getD j .nilIface)) := by
  obtain ⟨a, cap, h1, h2, h3, h4⟩ := SeesC.form (by decide) h
  simp only [List.length_map] at h1 h2 h4
  refine ⟨a, cap, h1, h2, h3, fun hp => ?_⟩
  obtain ⟨b, off, ha, hb, hc⟩ := h4 hp
  refine ⟨b, off, ha, hb, fun i hi j hj => ?_⟩
  have h0 := hc i hi j hj
  rw [cells_getDSeV l i hi] at h0
  rw [Nat.add_assoc]
  exact h0
theorem lensSeV (l : List SeV) : ∀ e ∈ l.map SeV.cells, e.length = 4 := fun e he => by obtain ⟨x, _, rfl⟩ := List.mem_map.1 he; rfl
theorem SeesSeV.owned {w : World} {base : Nat} {e : TypeId} {v : Value} {n : Nat} {l : List SeV} (hn : n = l.length) (h : w.ownsRow base e 4 v n (l.map SeV.cells).flatten) : SeesSeV w v l :=
  SeesC.of_owns (lensSeV l) (by simp [hn]) h
theorem flatSeV (l : List SeV) : (l.map SeV.cells).flatten.length = l.length * 4 := by rw [flat_len 4 _ (lensSeV l), List.length_map]
theorem oneSeV (l : List SeV) : ∀ u ∈ (l.map SeV.cells).flatten, u.oneCell' = true := by
  intro u hu
  obtain ⟨e, he, hu⟩ := List.mem_flatten.1 hu
  obtain ⟨x, _, rfl⟩ := List.mem_map.1 he
  simp only [SeV.cells, List.mem_cons, List.not_mem_nil, or_false] at hu
  rcases hu with rfl | rfl | rfl | rfl <;> rfl

/-- A semaphore. -/
structure Se where
  c : Int
  m : Int
  k : Bool
  l : List Wt
def Se.zero : Se := ⟨0, 0, false, []⟩

/-- A value that reads, in w, as x. -/
structure SeAt (w : World) (q : SeV) (x : Se) : Prop where
  c : q.c = x.c
  m : q.m = x.m
  k : q.k = x.k
  l : SeesWt w q.l.val x.l
theorem SeAt.below {w w' : World} {q : SeV} {x : Se} (h : SeAt w q x) (hb : Below w.heap.size w w') : SeAt w' q x := ⟨h.c, h.m, h.k, h.l.below hb⟩

/-- A slice of these that reads, in w, as l. -/
def LSe (w : World) (v : Value) (l : List Se) : Prop := ∃ rs : List SeV, SeesSeV w v rs ∧ rs.length = l.length ∧ ∀ i, i < rs.length → SeAt w (rs.getD i SeV.zero) (l.getD i Se.zero)
theorem LSe.nil (w : World) : LSe w (.slice none 0 0) [] := ⟨[], SeesSeV.nil w, rfl, fun i hi => absurd hi (Nat.not_lt_zero _)⟩
theorem LSe.below {w w' : World} {v : Value} {l : List Se} (h : LSe w v l) (hb : Below w.heap.size w w') : LSe w' v l := by
  obtain ⟨rs, a, b, c⟩ := h
  exact ⟨rs, a.below hb, b, fun i hi => (c i hi).below hb⟩
theorem LSe.le {w : World} {v : Value} {l : List Se} (h : LSe w v l) : l.length ≤ maxLen := by
  obtain ⟨rs, a, b, c⟩ := h
  rw [← b]; exact a.le

/-- An event, its value. -/
structure EvV where
  u : Bool
  l : Sl
def EvV.zero : EvV := ⟨false, ⟨none, 0, 0⟩⟩
def EvV.val (r : EvV) : Value := .agg #[.bool r.u, .slice r.l.a r.l.n r.l.c]
def EvV.cells (r : EvV) : List Value := [.bool r.u, .slice r.l.a r.l.n r.l.c]

/-- A slice of these that reads, in w, as l. -/
def SeesEvV (w : World) (v : Value) (l : List EvV) : Prop := SeesC w 2 v (l.map EvV.cells)
theorem SeesEvV.nil (w : World) : SeesEvV w (.slice none 0 0) [] := SeesC.nil _ _
theorem SeesEvV.below {w w' : World} {v : Value} {l : List EvV} (h : SeesEvV w v l) (hb : Below w.heap.size w w') : SeesEvV w' v l := SeesC.below h hb
theorem SeesEvV.le {w : World} {v : Value} {l : List EvV} (h : SeesEvV w v l) : l.length ≤ maxLen := by have := SeesC.le h; simpa using this
theorem cells_getDEvV (l : List EvV) (i : Nat) (hi : i < l.length) : (l.map EvV.cells).getD i [] = (l.getD i EvV.zero).cells := by
  simp [List.getD, List.getElem?_eq_getElem hi]
theorem SeesEvV.form {w : World} {v : Value} {l : List EvV} (h : SeesEvV w v l) : ∃ a cap, v = .slice a l.length cap ∧ l.length ≤ cap ∧ cap ≤ maxLen ∧
    (0 < l.length → ∃ b off, a = some ⟨b, off, none⟩ ∧ b < w.heap.size ∧ ∀ i, i < l.length → ∀ j, j < 2 → w.cell? ⟨b, off + i * 2 + j, none⟩ = some ((l.getD i EvV.zero).cells.getD j .nilIface)) := by
  obtain ⟨a, cap, h1, h2, h3, h4⟩ := SeesC.form (by decide) h
  simp only [List.length_map] at h1 h2 h4
  refine ⟨a, cap, h1, h2, h3, fun hp => ?_⟩
  obtain ⟨b, off, ha, hb, hc⟩ := h4 hp
  refine ⟨b, off, ha, hb, fun i hi j hj => ?_⟩
  have h0 := hc i hi j hj
  rw [cells_getDEvV l i hi] at h0
  rw [Nat.add_assoc]
  exact h0
theorem lensEvV (l : List EvV) : ∀ e ∈ l.map EvV.cells, e.length = 2 := fun e he => by obtain ⟨x, _, rfl⟩ := List.mem_map.1 he; rfl
theorem SeesEvV.owned {w : World} {base : Nat} {e : TypeId} {v : Value} {n : Nat} {l : List EvV} (hn : n = l.length) (h : w.ownsRow base e 2 v n (l.map EvV.cells).flatten) : SeesEvV w v l :=
  SeesC.of_owns (lensEvV l) (by simp [hn]) h
theorem flatEvV (l : List EvV) : (l.map EvV.cells).flatten.length = l.length * 2 := by rw [flat_len 2 _ (lensEvV l), List.length_map]
theorem oneEvV (l : List EvV) : ∀ u ∈ (l.map EvV.cells).flatten, u.oneCell' = true := by
  intro u hu
  obtain ⟨e, he, hu⟩ := List.mem_flatten.1 hu
  obtain ⟨x, _, rfl⟩ := List.mem_map.1 he
  simp only [EvV.cells, List.mem_cons, List.not_mem_nil, or_false] at hu
  rcases hu with rfl | rfl <;> rfl

/-- An event. -/
structure Ev where
  u : Bool
  l : List Wt
def Ev.zero : Ev := ⟨false, []⟩

/-- A value that reads, in w, as x. -/
structure EvAt (w : World) (q : EvV) (x : Ev) : Prop where
  u : q.u = x.u
  l : SeesWt w q.l.val x.l
theorem EvAt.below {w w' : World} {q : EvV} {x : Ev} (h : EvAt w q x) (hb : Below w.heap.size w w') : EvAt w' q x := ⟨h.u, h.l.below hb⟩

/-- A slice of these that reads, in w, as l. -/
def LEv (w : World) (v : Value) (l : List Ev) : Prop := ∃ rs : List EvV, SeesEvV w v rs ∧ rs.length = l.length ∧ ∀ i, i < rs.length → EvAt w (rs.getD i EvV.zero) (l.getD i Ev.zero)
theorem LEv.nil (w : World) : LEv w (.slice none 0 0) [] := ⟨[], SeesEvV.nil w, rfl, fun i hi => absurd hi (Nat.not_lt_zero _)⟩
theorem LEv.below {w w' : World} {v : Value} {l : List Ev} (h : LEv w v l) (hb : Below w.heap.size w w') : LEv w' v l := by
  obtain ⟨rs, a, b, c⟩ := h
  exact ⟨rs, a.below hb, b, fun i hi => (c i hi).below hb⟩
theorem LEv.le {w : World} {v : Value} {l : List Ev} (h : LEv w v l) : l.length ≤ maxLen := by
  obtain ⟨rs, a, b, c⟩ := h
  rw [← b]; exact a.le

/-- A queue, its value. -/
structure QuV where
  d : Int
  vs : Sl
  x : Int
def QuV.zero : QuV := ⟨0, ⟨none, 0, 0⟩, 0⟩
def QuV.val (r : QuV) : Value := .agg #[.int .i64 r.d, .slice r.vs.a r.vs.n r.vs.c, .int .i64 r.x]
def QuV.cells (r : QuV) : List Value := [.int .i64 r.d, .slice r.vs.a r.vs.n r.vs.c, .int .i64 r.x]

/-- A slice of these that reads, in w, as l. -/
def SeesQuV (w : World) (v : Value) (l : List QuV) : Prop := SeesC w 3 v (l.map QuV.cells)
theorem SeesQuV.nil (w : World) : SeesQuV w (.slice none 0 0) [] := SeesC.nil _ _
theorem SeesQuV.below {w w' : World} {v : Value} {l : List QuV} (h : SeesQuV w v l) (hb : Below w.heap.size w w') : SeesQuV w' v l := SeesC.below h hb
theorem SeesQuV.le {w : World} {v : Value} {l : List QuV} (h : SeesQuV w v l) : l.length ≤ maxLen := by have := SeesC.le h; simpa using this
theorem cells_getDQuV (l : List QuV) (i : Nat) (hi : i < l.length) : (l.map QuV.cells).getD i [] = (l.getD i QuV.zero).cells := by
  simp [List.getD, List.getElem?_eq_getElem hi]
theorem SeesQuV.form {w : World} {v : Value} {l : List QuV} (h : SeesQuV w v l) : ∃ a cap, v = .slice a l.length cap ∧ l.length ≤ cap ∧ cap ≤ maxLen ∧
    (0 < l.length → ∃ b off, a = some ⟨b, off, none⟩ ∧ b < w.heap.size ∧ ∀ i, i < l.length → ∀ j, j < 3 → w.cell? ⟨b, off + i * 3 + j, none⟩ = some ((l.getD i QuV.zero).cells.getD j .nilIface)) := by
  obtain ⟨a, cap, h1, h2, h3, h4⟩ := SeesC.form (by decide) h
  simp only [List.length_map] at h1 h2 h4
  refine ⟨a, cap, h1, h2, h3, fun hp => ?_⟩
  obtain ⟨b, off, ha, hb, hc⟩ := h4 hp
  refine ⟨b, off, ha, hb, fun i hi j hj => ?_⟩
  have h0 := hc i hi j hj
  rw [cells_getDQuV l i hi] at h0
  rw [Nat.add_assoc]
  exact h0
theorem lensQuV (l : List QuV) : ∀ e ∈ l.map QuV.cells, e.length = 3 := fun e he => by obtain ⟨x, _, rfl⟩ := List.mem_map.1 he; rfl
theorem SeesQuV.owned {w : World} {base : Nat} {e : TypeId} {v : Value} {n : Nat} {l : List QuV} (hn : n = l.length) (h : w.ownsRow base e 3 v n (l.map QuV.cells).flatten) : SeesQuV w v l :=
  SeesC.of_owns (lensQuV l) (by simp [hn]) h
theorem flatQuV (l : List QuV) : (l.map QuV.cells).flatten.length = l.length * 3 := by rw [flat_len 3 _ (lensQuV l), List.length_map]
theorem oneQuV (l : List QuV) : ∀ u ∈ (l.map QuV.cells).flatten, u.oneCell' = true := by
  intro u hu
  obtain ⟨e, he, hu⟩ := List.mem_flatten.1 hu
  obtain ⟨x, _, rfl⟩ := List.mem_map.1 he
  simp only [QuV.cells, List.mem_cons, List.not_mem_nil, or_false] at hu
  rcases hu with rfl | rfl | rfl <;> rfl

/-- A queue. -/
structure Qu where
  d : Int
  vs : List Int
  x : Int
def Qu.zero : Qu := ⟨0, [], 0⟩

/-- A value that reads, in w, as x. -/
structure QuAt (w : World) (q : QuV) (x : Qu) : Prop where
  d : q.d = x.d
  vs : Sees w .i64 q.vs.val x.vs
  x : q.x = x.x
theorem QuAt.below {w w' : World} {q : QuV} {x : Qu} (h : QuAt w q x) (hb : Below w.heap.size w w') : QuAt w' q x := ⟨h.d, h.vs.below hb, h.x⟩

/-- A slice of these that reads, in w, as l. -/
def LQu (w : World) (v : Value) (l : List Qu) : Prop := ∃ rs : List QuV, SeesQuV w v rs ∧ rs.length = l.length ∧ ∀ i, i < rs.length → QuAt w (rs.getD i QuV.zero) (l.getD i Qu.zero)
theorem LQu.nil (w : World) : LQu w (.slice none 0 0) [] := ⟨[], SeesQuV.nil w, rfl, fun i hi => absurd hi (Nat.not_lt_zero _)⟩
theorem LQu.below {w w' : World} {v : Value} {l : List Qu} (h : LQu w v l) (hb : Below w.heap.size w w') : LQu w' v l := by
  obtain ⟨rs, a, b, c⟩ := h
  exact ⟨rs, a.below hb, b, fun i hi => (c i hi).below hb⟩
theorem LQu.le {w : World} {v : Value} {l : List Qu} (h : LQu w v l) : l.length ≤ maxLen := by
  obtain ⟨rs, a, b, c⟩ := h
  rw [← b]; exact a.le

/-- A partition, its value. -/
structure PaV where
  md : Int
  bg : Int
  nx : Int
  me : Sl
  pr : Sl
  bo : Sl
  bu : Sl
  se : Sl
  ev : Sl
  sa : Sl
  qu : Sl
  ld : Int
  ll : Sl
  lx : Int
  gi : Sl
def PaV.zero : PaV := ⟨0, 0, 0, ⟨none, 0, 0⟩, ⟨none, 0, 0⟩, ⟨none, 0, 0⟩, ⟨none, 0, 0⟩, ⟨none, 0, 0⟩, ⟨none, 0, 0⟩, ⟨none, 0, 0⟩, ⟨none, 0, 0⟩, 0, ⟨none, 0, 0⟩, 0, ⟨none, 0, 0⟩⟩
def PaV.val (r : PaV) : Value := .agg #[.int .i64 r.md, .int .i64 r.bg, .int .i64 r.nx, .slice r.me.a r.me.n r.me.c, .slice r.pr.a r.pr.n r.pr.c, .slice r.bo.a r.bo.n r.bo.c, .slice r.bu.a r.bu.n r.bu.c, .slice r.se.a r.se.n r.se.c, .slice r.ev.a r.ev.n r.ev.c, .slice r.sa.a r.sa.n r.sa.c, .slice r.qu.a r.qu.n r.qu.c, .int .i64 r.ld, .slice r.ll.a r.ll.n r.ll.c, .int .i64 r.lx, .slice r.gi.a r.gi.n r.gi.c]
def PaV.cells (r : PaV) : List Value := [.int .i64 r.md, .int .i64 r.bg, .int .i64 r.nx, .slice r.me.a r.me.n r.me.c, .slice r.pr.a r.pr.n r.pr.c, .slice r.bo.a r.bo.n r.bo.c, .slice r.bu.a r.bu.n r.bu.c, .slice r.se.a r.se.n r.se.c, .slice r.ev.a r.ev.n r.ev.c, .slice r.sa.a r.sa.n r.sa.c, .slice r.qu.a r.qu.n r.qu.c, .int .i64 r.ld, .slice r.ll.a r.ll.n r.ll.c, .int .i64 r.lx, .slice r.gi.a r.gi.n r.gi.c]

/-- A partition. -/
structure Pa where
  md : Int
  bg : Int
  nx : Int
  me : List Int
  pr : List Px
  bo : List Bd
  bu : List Bf
  se : List Se
  ev : List Ev
  sa : List Sp
  qu : List Qu
  ld : Int
  ll : List Int
  lx : Int
  gi : List Int
def Pa.zero : Pa := ⟨0, 0, 0, [], [], [], [], [], [], [], [], 0, [], 0, []⟩

/-- A value that reads, in w, as c. -/
structure PaAt (w : World) (q : PaV) (c : Pa) : Prop where
  md : q.md = c.md
  bg : q.bg = c.bg
  nx : q.nx = c.nx
  me : Sees w .i64 q.me.val c.me
  pr : SeesPx w q.pr.val c.pr
  bo : LBd w q.bo.val c.bo
  bu : LBf w q.bu.val c.bu
  se : LSe w q.se.val c.se
  ev : LEv w q.ev.val c.ev
  sa : SeesSp w q.sa.val c.sa
  qu : LQu w q.qu.val c.qu
  ld : q.ld = c.ld
  ll : Sees w .i64 q.ll.val c.ll
  lx : q.lx = c.lx
  gi : Sees w .i64 q.gi.val c.gi
theorem PaAt.below {w w' : World} {q : PaV} {c : Pa} (h : PaAt w q c) (hb : Below w.heap.size w w') : PaAt w' q c := ⟨h.md, h.bg, h.nx, h.me.below hb, h.pr.below hb, h.bo.below hb, h.bu.below hb, h.se.below hb, h.ev.below hb, h.sa.below hb, h.qu.below hb, h.ld, h.ll.below hb, h.lx, h.gi.below hb⟩
end Go.Proofs.Ytdanfnbclbiidaa
