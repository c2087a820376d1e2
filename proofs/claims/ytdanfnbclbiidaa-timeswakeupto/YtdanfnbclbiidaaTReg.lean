/-
  What is configured, as it lies in a world: slices of processes, buffers, semaphores, windows, channels, partitions, whatever the program.
-/
import Derived.Test.YtdanfnbclbiidaaMReg
namespace Go.Proofs.Ytdanfnbclbiidaa
open Go.RowKit
set_option linter.unusedVariables false

/-- A slice's value: where it begins, how long it is, how long it may become. -/
structure Sl where
  a : Option Addr
  n : Nat
  c : Nat
def Sl.val (s : Sl) : Value := .slice s.a s.n s.c

/-- A process as it is configured. -/
structure Pc where
  pr : Int
  pe : Int
  li : Int
  en : Int
  au : Bool
def Pc.zero : Pc := ⟨0, 0, 0, 0, false⟩
def Pc.val (r : Pc) : Value := .agg #[.int .i64 r.pr, .int .i64 r.pe, .int .i64 r.li, .int .i64 r.en, .bool r.au]
def Pc.cells (r : Pc) : List Value := [.int .i64 r.pr, .int .i64 r.pe, .int .i64 r.li, .int .i64 r.en, .bool r.au]

/-- A slice of these that reads, in w, as l. -/
def SeesPc (w : World) (v : Value) (l : List Pc) : Prop := SeesC w 5 v (l.map Pc.cells)
theorem SeesPc.nil (w : World) : SeesPc w (.slice none 0 0) [] := SeesC.nil _ _
theorem SeesPc.below {w w' : World} {v : Value} {l : List Pc} (h : SeesPc w v l) (hb : Below w.heap.size w w') : SeesPc w' v l := SeesC.below h hb
theorem SeesPc.le {w : World} {v : Value} {l : List Pc} (h : SeesPc w v l) : l.length ≤ maxLen := by have := SeesC.le h; simpa using this
theorem cells_getDPc (l : List Pc) (i : Nat) (hi : i < l.length) : (l.map Pc.cells).getD i [] = (l.getD i Pc.zero).cells := by
  simp [List.getD, List.getElem?_eq_getElem hi]
theorem SeesPc.form {w : World} {v : Value} {l : List Pc} (h : SeesPc w v l) : ∃ a cap, v = .slice a l.length cap ∧ l.length ≤ cap ∧ cap ≤ maxLen ∧
    (0 < l.length → ∃ b off, a = some ⟨b, off, none⟩ ∧ b < w.heap.size ∧ ∀ i, i < l.length → ∀ j, j < 5 → w.cell? ⟨b, off + i * 5 + j, none⟩ = some ((l.getD i Pc.zero).cells.getD j .nilIface)) := by
  obtain ⟨a, cap, h1, h2, h3, h4⟩ := SeesC.form (by decide) h
  simp only [List.length_map] at h1 h2 h4
  refine ⟨a, cap, h1, h2, h3, fun hp => ?_⟩
  obtain ⟨b, off, ha, hb, hc⟩ := h4 hp
  refine ⟨b, off, ha, hb, fun i hi j hj => ?_⟩
  have h0 := hc i hi j hj
  rw [cells_getDPc l i hi] at h0
  rw [Nat.add_assoc]
  exact h0
theorem SeesPc.owned {w : World} {base : Nat} {e : TypeId} {v : Value} {n : Nat} {l : List Pc} (hn : n = l.length) (h : w.ownsRow base e 5 v n (l.map Pc.cells).flatten) : SeesPc w v l :=
  SeesC.of_owns (fun e he => by obtain ⟨x, _, rfl⟩ := List.mem_map.1 he; rfl) (by simp [hn]) h

/-- A buffer as it is configured. -/
structure Bc where
  d : Int
  ra : Bool
def Bc.zero : Bc := ⟨0, false⟩
def Bc.val (r : Bc) : Value := .agg #[.int .i64 r.d, .bool r.ra]
def Bc.cells (r : Bc) : List Value := [.int .i64 r.d, .bool r.ra]

/-- A slice of these that reads, in w, as l. -/
def SeesBc (w : World) (v : Value) (l : List Bc) : Prop := SeesC w 2 v (l.map Bc.cells)
theorem SeesBc.nil (w : World) : SeesBc w (.slice none 0 0) [] := SeesC.nil _ _
theorem SeesBc.below {w w' : World} {v : Value} {l : List Bc} (h : SeesBc w v l) (hb : Below w.heap.size w w') : SeesBc w' v l := SeesC.below h hb
theorem SeesBc.le {w : World} {v : Value} {l : List Bc} (h : SeesBc w v l) : l.length ≤ maxLen := by have := SeesC.le h; simpa using this
theorem cells_getDBc (l : List Bc) (i : Nat) (hi : i < l.length) : (l.map Bc.cells).getD i [] = (l.getD i Bc.zero).cells := by
  simp [List.getD, List.getElem?_eq_getElem hi]
theorem SeesBc.form {w : World} {v : Value} {l : List Bc} (h : SeesBc w v l) : ∃ a cap, v = .slice a l.length cap ∧ l.length ≤ cap ∧ cap ≤ maxLen ∧
    (0 < l.length → ∃ b off, a = some ⟨b, off, none⟩ ∧ b < w.heap.size ∧ ∀ i, i < l.length → ∀ j, j < 2 → w.cell? ⟨b, off + i * 2 + j, none⟩ = some ((l.getD i Bc.zero).cells.getD j .nilIface)) := by
  obtain ⟨a, cap, h1, h2, h3, h4⟩ := SeesC.form (by decide) h
  simp only [List.length_map] at h1 h2 h4
  refine ⟨a, cap, h1, h2, h3, fun hp => ?_⟩
  obtain ⟨b, off, ha, hb, hc⟩ := h4 hp
  refine ⟨b, off, ha, hb, fun i hi j hj => ?_⟩
  have h0 := hc i hi j hj
  rw [cells_getDBc l i hi] at h0
  rw [Nat.add_assoc]
  exact h0
theorem SeesBc.owned {w : World} {base : Nat} {e : TypeId} {v : Value} {n : Nat} {l : List Bc} (hn : n = l.length) (h : w.ownsRow base e 2 v n (l.map Bc.cells).flatten) : SeesBc w v l :=
  SeesC.of_owns (fun e he => by obtain ⟨x, _, rfl⟩ := List.mem_map.1 he; rfl) (by simp [hn]) h

/-- A semaphore as it is configured. -/
structure Sc where
  co : Int
  mo : Int
  ra : Bool
def Sc.zero : Sc := ⟨0, 0, false⟩
def Sc.val (r : Sc) : Value := .agg #[.int .i64 r.co, .int .i64 r.mo, .bool r.ra]
def Sc.cells (r : Sc) : List Value := [.int .i64 r.co, .int .i64 r.mo, .bool r.ra]

/-- A slice of these that reads, in w, as l. -/
def SeesSc (w : World) (v : Value) (l : List Sc) : Prop := SeesC w 3 v (l.map Sc.cells)
theorem SeesSc.nil (w : World) : SeesSc w (.slice none 0 0) [] := SeesC.nil _ _
theorem SeesSc.below {w w' : World} {v : Value} {l : List Sc} (h : SeesSc w v l) (hb : Below w.heap.size w w') : SeesSc w' v l := SeesC.below h hb
theorem SeesSc.le {w : World} {v : Value} {l : List Sc} (h : SeesSc w v l) : l.length ≤ maxLen := by have := SeesC.le h; simpa using this
theorem cells_getDSc (l : List Sc) (i : Nat) (hi : i < l.length) : (l.map Sc.cells).getD i [] = (l.getD i Sc.zero).cells := by
  simp [List.getD, List.getElem?_eq_getElem hi]
theorem SeesSc.form {w : World} {v : Value} {l : List Sc} (h : SeesSc w v l) : ∃ a cap, v = .slice a l.length cap ∧ l.length ≤ cap ∧ cap ≤ maxLen ∧
    (0 < l.length → ∃ b off, a = some ⟨b, off, none⟩ ∧ b < w.heap.size ∧ ∀ i, i < l.length → ∀ j, j < 3 → w.cell? ⟨b, off + i * 3 + j, none⟩ = some ((l.getD i Sc.zero).cells.getD j .nilIface)) := by
  obtain ⟨a, cap, h1, h2, h3, h4⟩ := SeesC.form (by decide) h
  simp only [List.length_map] at h1 h2 h4
  refine ⟨a, cap, h1, h2, h3, fun hp => ?_⟩
  obtain ⟨b, off, ha, hb, hc⟩ := h4 hp
  refine ⟨b, off, ha, hb, fun i hi j hj => ?_⟩
  have h0 := hc i hi j hj
  rw [cells_getDSc l i hi] at h0
  rw [Nat.add_assoc]
  exact h0
theorem SeesSc.owned {w : World} {base : Nat} {e : TypeId} {v : Value} {n : Nat} {l : List Sc} (hn : n = l.length) (h : w.ownsRow base e 3 v n (l.map Sc.cells).flatten) : SeesSc w v l :=
  SeesC.of_owns (fun e he => by obtain ⟨x, _, rfl⟩ := List.mem_map.1 he; rfl) (by simp [hn]) h

/-- A window. -/
structure Wn where
  p : Int
  st : Int
  ln : Int
def Wn.zero : Wn := ⟨0, 0, 0⟩
def Wn.val (r : Wn) : Value := .agg #[.int .i64 r.p, .int .i64 r.st, .int .i64 r.ln]
def Wn.cells (r : Wn) : List Value := [.int .i64 r.p, .int .i64 r.st, .int .i64 r.ln]

/-- A slice of these that reads, in w, as l. -/
def SeesWn (w : World) (v : Value) (l : List Wn) : Prop := SeesC w 3 v (l.map Wn.cells)
theorem SeesWn.nil (w : World) : SeesWn w (.slice none 0 0) [] := SeesC.nil _ _
theorem SeesWn.below {w w' : World} {v : Value} {l : List Wn} (h : SeesWn w v l) (hb : Below w.heap.size w w') : SeesWn w' v l := SeesC.below h hb
theorem SeesWn.le {w : World} {v : Value} {l : List Wn} (h : SeesWn w v l) : l.length ≤ maxLen := by have := SeesC.le h; simpa using this
theorem cells_getDWn (l : List Wn) (i : Nat) (hi : i < l.length) : (l.map Wn.cells).getD i [] = (l.getD i Wn.zero).cells := by
  simp [List.getD, List.getElem?_eq_getElem hi]
theorem SeesWn.form {w : World} {v : Value} {l : List Wn} (h : SeesWn w v l) : ∃ a cap, v = .slice a l.length cap ∧ l.length ≤ cap ∧ cap ≤ maxLen ∧
    (0 < l.length → ∃ b off, a = some ⟨b, off, none⟩ ∧ b < w.heap.size ∧ ∀ i, i < l.length → ∀ j, j < 3 → w.cell? ⟨b, off + i * 3 + j, none⟩ = some ((l.getD i Wn.zero).cells.getD j .nilIface)) := by
  obtain ⟨a, cap, h1, h2, h3, h4⟩ := SeesC.form (by decide) h
  simp only [List.length_map] at h1 h2 h4
  refine ⟨a, cap, h1, h2, h3, fun hp => ?_⟩
  obtain ⟨b, off, ha, hb, hc⟩ := h4 hp
  refine ⟨b, off, ha, hb, fun i hi j hj => ?_⟩
  have h0 := hc i hi j hj
  rw [cells_getDWn l i hi] at h0
  rw [Nat.add_assoc]
  exact h0
theorem SeesWn.owned {w : World} {base : Nat} {e : TypeId} {v : Value} {n : Nat} {l : List Wn} (hn : n = l.length) (h : w.ownsRow base e 3 v n (l.map Wn.cells).flatten) : SeesWn w v l :=
  SeesC.of_owns (fun e he => by obtain ⟨x, _, rfl⟩ := List.mem_map.1 he; rfl) (by simp [hn]) h

/-- A channel. -/
structure Ch where
  qu : Bool
  f : Int
  a : Int
  t : Int
  b : Int
def Ch.zero : Ch := ⟨false, 0, 0, 0, 0⟩
def Ch.val (r : Ch) : Value := .agg #[.bool r.qu, .int .i64 r.f, .int .i64 r.a, .int .i64 r.t, .int .i64 r.b]
def Ch.cells (r : Ch) : List Value := [.bool r.qu, .int .i64 r.f, .int .i64 r.a, .int .i64 r.t, .int .i64 r.b]

/-- A slice of these that reads, in w, as l. -/
def SeesCh (w : World) (v : Value) (l : List Ch) : Prop := SeesC w 5 v (l.map Ch.cells)
theorem SeesCh.nil (w : World) : SeesCh w (.slice none 0 0) [] := SeesC.nil _ _
theorem SeesCh.below {w w' : World} {v : Value} {l : List Ch} (h : SeesCh w v l) (hb : Below w.heap.size w w') : SeesCh w' v l := SeesC.below h hb
theorem SeesCh.le {w : World} {v : Value} {l : List Ch} (h : SeesCh w v l) : l.length ≤ maxLen := by have := SeesC.le h; simpa using this
theorem cells_getDCh (l : List Ch) (i : Nat) (hi : i < l.length) : (l.map Ch.cells).getD i [] = (l.getD i Ch.zero).cells := by
  simp [List.getD, List.getElem?_eq_getElem hi]
theorem SeesCh.form {w : World} {v : Value} {l : List Ch} (h : SeesCh w v l) : ∃ a cap, v = .slice a l.length cap ∧ l.length ≤ cap ∧ cap ≤ maxLen ∧
    (0 < l.length → ∃ b off, a = some ⟨b, off, none⟩ ∧ b < w.heap.size ∧ ∀ i, i < l.length → ∀ j, j < 5 → w.cell? ⟨b, off + i * 5 + j, none⟩ = some ((l.getD i Ch.zero).cells.getD j .nilIface)) := by
  obtain ⟨a, cap, h1, h2, h3, h4⟩ := SeesC.form (by decide) h
  simp only [List.length_map] at h1 h2 h4
  refine ⟨a, cap, h1, h2, h3, fun hp => ?_⟩
  obtain ⟨b, off, ha, hb, hc⟩ := h4 hp
  refine ⟨b, off, ha, hb, fun i hi j hj => ?_⟩
  have h0 := hc i hi j hj
  rw [cells_getDCh l i hi] at h0
  rw [Nat.add_assoc]
  exact h0
theorem SeesCh.owned {w : World} {base : Nat} {e : TypeId} {v : Value} {n : Nat} {l : List Ch} (hn : n = l.length) (h : w.ownsRow base e 5 v n (l.map Ch.cells).flatten) : SeesCh w v l :=
  SeesC.of_owns (fun e he => by obtain ⟨x, _, rfl⟩ := List.mem_map.1 he; rfl) (by simp [hn]) h

/-- An end of a channel. -/
structure En where
  qu : Bool
  p : Int
  o : Int
def En.zero : En := ⟨false, 0, 0⟩
def En.val (r : En) : Value := .agg #[.bool r.qu, .int .i64 r.p, .int .i64 r.o]
def En.cells (r : En) : List Value := [.bool r.qu, .int .i64 r.p, .int .i64 r.o]

/-- A slice of these that reads, in w, as l. -/
def SeesEn (w : World) (v : Value) (l : List En) : Prop := SeesC w 3 v (l.map En.cells)
theorem SeesEn.nil (w : World) : SeesEn w (.slice none 0 0) [] := SeesC.nil _ _
theorem SeesEn.below {w w' : World} {v : Value} {l : List En} (h : SeesEn w v l) (hb : Below w.heap.size w w') : SeesEn w' v l := SeesC.below h hb
theorem SeesEn.le {w : World} {v : Value} {l : List En} (h : SeesEn w v l) : l.length ≤ maxLen := by have := SeesC.le h; simpa using this
theorem cells_getDEn (l : List En) (i : Nat) (hi : i < l.length) : (l.map En.cells).getD i [] = (l.getD i En.zero).cells := by
  simp [List.getD, List.getElem?_eq_getElem hi]
theorem SeesEn.form {w : World} {v : Value} {l : List En} (h : SeesEn w v l) : ∃ a cap, v = .slice a l.length cap ∧ l.length ≤ cap ∧ cap ≤ maxLen ∧
    (0 < l.length → ∃ b off, a = some ⟨b, off, none⟩ ∧ b < w.heap.size ∧ ∀ i, i < l.length → ∀ j, j < 3 → w.cell? ⟨b, off + i * 3 + j, none⟩ = some ((l.getD i En.zero).cells.getD j .nilIface)) := by
  obtain ⟨a, cap, h1, h2, h3, h4⟩ := SeesC.form (by decide) h
  simp only [List.length_map] at h1 h2 h4
  refine ⟨a, cap, h1, h2, h3, fun hp => ?_⟩
  obtain ⟨b, off, ha, hb, hc⟩ := h4 hp
  refine ⟨b, off, ha, hb, fun i hi j hj => ?_⟩
  have h0 := hc i hi j hj
  rw [cells_getDEn l i hi] at h0
  rw [Nat.add_assoc]
  exact h0
theorem SeesEn.owned {w : World} {base : Nat} {e : TypeId} {v : Value} {n : Nat} {l : List En} (hn : n = l.length) (h : w.ownsRow base e 3 v n (l.map En.cells).flatten) : SeesEn w v l :=
  SeesC.of_owns (fun e he => by obtain ⟨x, _, rfl⟩ := List.mem_map.1 he; rfl) (by simp [hn]) h

/-- A partition as it is configured: its numbers, and where its lists lie. -/
structure Pv where
  wo : Int
  v1 : Sl
  v2 : Sl
  bo : Int
  v4 : Sl
  v5 : Sl
  ev : Int
  v7 : Sl
  v8 : Sl
  la : Int
  v10 : Sl
def Pv.zero : Pv := ⟨0, ⟨none, 0, 0⟩, ⟨none, 0, 0⟩, 0, ⟨none, 0, 0⟩, ⟨none, 0, 0⟩, 0, ⟨none, 0, 0⟩, ⟨none, 0, 0⟩, 0, ⟨none, 0, 0⟩⟩
def Pv.val (r : Pv) : Value := .agg #[.int .i64 r.wo, .slice r.v1.a r.v1.n r.v1.c, .slice r.v2.a r.v2.n r.v2.c, .int .i64 r.bo, .slice r.v4.a r.v4.n r.v4.c, .slice r.v5.a r.v5.n r.v5.c, .int .i64 r.ev, .slice r.v7.a r.v7.n r.v7.c, .slice r.v8.a r.v8.n r.v8.c, .int .i64 r.la, .slice r.v10.a r.v10.n r.v10.c]
def Pv.cells (r : Pv) : List Value := [.int .i64 r.wo, .slice r.v1.a r.v1.n r.v1.c, .slice r.v2.a r.v2.n r.v2.c, .int .i64 r.bo, .slice r.v4.a r.v4.n r.v4.c, .slice r.v5.a r.v5.n r.v5.c, .int .i64 r.ev, .slice r.v7.a r.v7.n r.v7.c, .slice r.v8.a r.v8.n r.v8.c, .int .i64 r.la, .slice r.v10.a r.v10.n r.v10.c]

/-- A slice of these that reads, in w, as l. -/
def SeesPv (w : World) (v : Value) (l : List Pv) : Prop := SeesC w 11 v (l.map Pv.cells)
theorem SeesPv.nil (w : World) : SeesPv w (.slice none 0 0) [] := SeesC.nil _ _
theorem SeesPv.below {w w' : World} {v : Value} {l : List Pv} (h : SeesPv w v l) (hb : Below w.heap.size w w') : SeesPv w' v l := SeesC.below h hb
theorem SeesPv.le {w : World} {v : Value} {l : List Pv} (h : SeesPv w v l) : l.length ≤ maxLen := by have := SeesC.le h; simpa using this
theorem cells_getDPv (l : List Pv) (i : Nat) (hi : i < l.length) : (l.map Pv.cells).getD i [] = (l.getD i Pv.zero).cells := by
  simp [List.getD, List.getElem?_eq_getElem hi]
theorem SeesPv.form {w : World} {v : Value} {l : List Pv} (h : SeesPv w v l) : ∃ a cap, v = .slice a l.length cap ∧ l.length ≤ cap ∧ cap ≤ maxLen ∧
    (0 < l.length → ∃ b off, a = some ⟨b, off, none⟩ ∧ b < w.heap.size ∧ ∀ i, i < l.length → ∀ j, j < 11 → w.cell? ⟨b, off + i * 11 + j, none⟩ = some ((l.getD i Pv.zero).cells.getD j .nilIface)) := by
  obtain ⟨a, cap, h1, h2, h3, h4⟩ := SeesC.form (by decide) h
  simp only [List.length_map] at h1 h2 h4
  refine ⟨a, cap, h1, h2, h3, fun hp => ?_⟩
  obtain ⟨b, off, ha, hb, hc⟩ := h4 hp
  refine ⟨b, off, ha, hb, fun i hi j hj => ?_⟩
  have h0 := hc i hi j hj
  rw [cells_getDPv l i hi] at h0
  rw [Nat.add_assoc]
  exact h0
theorem SeesPv.owned {w : World} {base : Nat} {e : TypeId} {v : Value} {n : Nat} {l : List Pv} (hn : n = l.length) (h : w.ownsRow base e 11 v n (l.map Pv.cells).flatten) : SeesPv w v l :=
  SeesC.of_owns (fun e he => by obtain ⟨x, _, rfl⟩ := List.mem_map.1 he; rfl) (by simp [hn]) h

end Go.Proofs.Ytdanfnbclbiidaa
