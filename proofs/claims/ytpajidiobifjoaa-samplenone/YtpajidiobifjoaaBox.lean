/-
  Boxes that hold a whole struct, and rows of structs of the call's own: loaded, stored into, and what that leaves as it was, whatever the program.
-/
import Derived.Test.YtpajidiobifjoaaRows
import Derived.Test.YtpajidiobifjoaaLibC
import Derived.Test.YtpajidiobifjoaaLLib
import Derived.Deep.MidRow
namespace Go.Proofs.Ytpajidiobifjoaa
open Go.RowKit
set_option linter.unusedVariables false

theorem grown_trans {a b c : World} {row : Option Nat} (h : a.grownBy b row) (k : b.grownBy c row) : a.grownBy c row :=
  ⟨k.os.trans h.os, k.tape.trans h.tape, k.output.trans h.output, Nat.le_trans h.size k.size, fun i hi hr => (k.block i (Nat.lt_of_lt_of_le hi h.size) hr).trans (h.block i hi hr)⟩
theorem grown_set (w : World) (g j : Nat) (u : Value) : w.grownBy (w.setCell ⟨g, j, none⟩ u) (some g) :=
  ⟨rfl, rfl, rfl, by simp, fun k _ hk => heap_setCell_other w ⟨g, j, none⟩ k u (fun e => hk (by simp [e]))⟩
theorem grown_sets (g : Nat) : ∀ (vs : List Value) (o : Nat) (w : World), w.grownBy (w.setCells g o vs) (some g)
  | [], _, w => World.grownBy.refl w _
  | v :: vs, o, w => grown_trans (grown_set w g o v) (grown_sets g vs (o + 1) _)
theorem grown_below {w w' : World} {g B : Nat} (h : w.grownBy w' (some g)) (hb : B ≤ g) (hs : B ≤ w.heap.size) : Below B w w' :=
  (Below.refl B w).grown h hs (fun k hk => by cases hk; exact hb)
theorem size_sets (g : Nat) : ∀ (vs : List Value) (o : Nat) (w : World), (w.setCells g o vs).heap.size = w.heap.size
  | [], _, w => rfl
  | v :: vs, o, w => by rw [World.setCells, size_sets g vs (o + 1) _]; simp

/-- A row that is owned lies in a block of its elements' type. -/
theorem owns_box {w : World} {base : Nat} {e : TypeId} {size : Nat} {g n cap : Nat} {xs : List Value} (h : w.ownsRow base e size (.slice (some ⟨g, 0, none⟩) n cap) n xs) : ∃ cs, BoxAt w g e cs ∧ base ≤ g ∧ g < w.heap.size := by
  rcases h.2 with ⟨h', _⟩ | ⟨g', cap', cur, h', hb, hg, _⟩
  · simp at h'
  · simp only [Value.slice.injEq, Option.some.injEq, Addr.mk.injEq, and_true, true_and] at h'
    obtain ⟨rfl, rfl⟩ := h'
    exact ⟨cur, hg, hb, BoxAt.lt hg⟩
theorem owns_formQ {w : World} {base : Nat} {e : TypeId} {size : Nat} {v : Value} {n : Nat} {xs : List Value} (h : w.ownsRow base e size v n xs) (hn : 0 < n) : ∃ g cap, v = .slice (some ⟨g, 0, none⟩) n cap ∧ base ≤ g ∧ g < w.heap.size ∧ n ≤ cap ∧ cap ≤ 9223372036854775807 := by
  rcases h.2 with ⟨_, h0⟩ | ⟨g, cap, cur, hv, hg, hh, hc, hm, _⟩
  · omega
  · refine ⟨g, cap, hv, hg, ?_, hc, hm⟩
    rcases Nat.lt_or_ge g w.heap.size with h' | h'
    · exact h'
    · rw [Array.getElem?_eq_none h'] at hh; cases hh

/-- A value of one cell is stored into a cell that is there. -/
theorem wp_store_at {P : Program} {o : Oper} {a : Act} {w : World} {K : Act → World → Prop} {Q : Exit → Act → World → Prop} (T : TypeId) (x y : Operand) (ho : o.op = .store T x y)
    (b k : Nat) (u : Value) (hx : a.eval x = .pointer (some ⟨b, k, none⟩)) (hy : a.eval y = u) (hu : u.cells = #[u]) (h1 : u.oneCell' = true) (hi : (P.info? T).map (·.size) = some 1)
    (old : Value) (hc : w.cell? ⟨b, k, none⟩ = some old) (hf : w.frozen? ⟨b, k, none⟩ = false)
    (h : K (a.put o.dst undef) (w.setCell ⟨b, k, none⟩ u)) : Oper.wp P o a w K Q := by
  have hr : (storeVar T ⟨b, k, none⟩ u).run P w = .ok () (w.setCell ⟨b, k, none⟩ u) := by
    have hst := run_storeCells_cells (P := P) b k [u] 0 w (fun j hj => by simp at hj; subst hj; simp [hc]) (fun j hj => by simp at hj; subst hj; simpa using hf) (fun v hv => by simp at hv; subst hv; exact h1)
    cases hq : P.info? T with
    | none => simp [hq] at hi
    | some i =>
      have hs : i.size = 1 := by simpa [hq] using hi
      simp only [Nat.add_zero] at hst
      simp [storeVar, sizeOf, typeInfo, hq, hu, hs, hst, World.setCells]
  unfold Oper.wp execOp
  simp only [ho, hx, hy, Instr.storeAt, Instr.sureAddr, Sem.run_bind, Sem.run_pure, Result.andThen_ok, hr]
  exact h
theorem wpList_store_at {P : Program} {ops : Array Oper} {rest : List Oper} {o : Oper} {a : Act} {w : World} {Q : Exit → Act → World → Prop} (hgd : o.guard = none) (T : TypeId) (x y : Operand) (ho : o.op = .store T x y) (hd : o.dst = none)
    (b k : Nat) (u : Value) (hx : a.eval x = .pointer (some ⟨b, k, none⟩)) (hy : a.eval y = u) (hu : u.cells = #[u]) (h1 : u.oneCell' = true) (hi : (P.info? T).map (·.size) = some 1)
    (old : Value) (hc : w.cell? ⟨b, k, none⟩ = some old) (hf : w.frozen? ⟨b, k, none⟩ = false)
    (h : wpList P ops Q rest a (w.setCell ⟨b, k, none⟩ u)) : wpList P ops Q (o :: rest) a w :=
  wpList_plain hgd fun _ hK => wp_store_at T x y ho b k u hx hy hu h1 hi old hc hf (hK _ _ (by rw [hd]; exact h))

/-- .. into a cell of a box. -/
theorem wpList_store_box {P : Program} {ops : Array Oper} {rest : List Oper} {o : Oper} {a : Act} {w : World} {Q : Exit → Act → World → Prop} (hgd : o.guard = none) (T : TypeId) (x y : Operand) (ho : o.op = .store T x y) (hd : o.dst = none)
    (b k : Nat) (u : Value) (hx : a.eval x = .pointer (some ⟨b, k, none⟩)) (hy : a.eval y = u) (hu : u.cells = #[u]) (h1 : u.oneCell' = true) (hi : (P.info? T).map (·.size) = some 1)
    (t : TypeId) (cs : Array Value) (hb : BoxAt w b t cs) (hk : k < cs.size)
    (h : ∀ w', BoxAt w' b t (cs.setIfInBounds k u) → w.grownBy w' (some b) → w'.heap.size = w.heap.size → wpList P ops Q rest a w') : wpList P ops Q (o :: rest) a w :=
  wpList_store_at hgd T x y ho hd b k u hx hy hu h1 hi _ ((hb.cell k).trans (Array.getElem?_eq_getElem hk)) (hb.free k) (h _ (hb.set k u) (grown_set w b k u) (by simp))

theorem wp_store_box {P : Program} {o : Oper} {a : Act} {w : World} {K : Act → World → Prop} {Q : Exit → Act → World → Prop} (T : TypeId) (x y : Operand) (ho : o.op = .store T x y)
    (b k : Nat) (u : Value) (hx : a.eval x = .pointer (some ⟨b, k, none⟩)) (hy : a.eval y = u) (hu : u.cells = #[u]) (h1 : u.oneCell' = true) (hi : (P.info? T).map (·.size) = some 1)
    (t : TypeId) (cs : Array Value) (hb : BoxAt w b t cs) (hk : k < cs.size)
    (h : ∀ w', BoxAt w' b t (cs.setIfInBounds k u) → w.grownBy w' (some b) → w'.heap.size = w.heap.size → K (a.put o.dst undef) w') : Oper.wp P o a w K Q :=
  wp_store_at T x y ho b k u hx hy hu h1 hi _ ((hb.cell k).trans (Array.getElem?_eq_getElem hk)) (hb.free k) (h _ (hb.set k u) (grown_set w b k u) (by simp))

/-- A whole box is read. -/
theorem box_range {w : World} {g : Nat} {t : TypeId} {cs : List Value} (h : BoxAt w g t cs.toArray) : w.rangeAt g 0 cs := fun j v hj => by
  rw [Nat.zero_add, h.cell j]
  simpa using hj
theorem wpList_load_box {P : Program} {ops : Array Oper} {rest : List Oper} {o : Oper} {a : Act} {w : World} {Q : Exit → Act → World → Prop} (hgd : o.guard = none) (T : TypeId) (x : Operand) (ho : o.op = .load T x)
    (g : Nat) (hx : a.eval x = .pointer (some ⟨g, 0, none⟩)) (t : TypeId) (cs : List Value) (hb : BoxAt w g t cs.toArray) (fs : Array Field) (hu : P.underlying T = some (.struct fs)) (hi : (P.info? T).map (·.size) = some cs.length)
    (h : wpList P ops Q rest (a.put o.dst (.agg cs.toArray)) w) : wpList P ops Q (o :: rest) a w :=
  wpList_load_mid hgd T x ho g 0 hx cs _ (box_range hb) hu rfl hi h
/-- A whole box is written. -/
theorem wpList_store_whole {P : Program} {ops : Array Oper} {rest : List Oper} {o : Oper} {a : Act} {w : World} {Q : Exit → Act → World → Prop} (hgd : o.guard = none) (T : TypeId) (x y : Operand) (ho : o.op = .store T x y) (hd : o.dst = none)
    (g : Nat) (hx : a.eval x = .pointer (some ⟨g, 0, none⟩)) (cs : List Value) (hy : a.eval y = .agg cs.toArray) (t : TypeId) (old : Array Value) (hb : BoxAt w g t old) (hold : old.size = cs.length) (hi : (P.info? T).map (·.size) = some cs.length) (h1 : ∀ v ∈ cs, v.oneCell' = true)
    (h : ∀ w', BoxAt w' g t cs.toArray → w.grownBy w' (some g) → w'.heap.size = w.heap.size → wpList P ops Q rest a w') : wpList P ops Q (o :: rest) a w := by
  refine wpList_store_row hgd T x y ho g cs.toArray hx hy t old hb (by simpa using hi) (by simpa using hold) (all_oneCell_toArray h1) ?_
  rw [hd]
  exact h _ (setRow_heap w g old _ t _ hb) ⟨rfl, rfl, rfl, by simp, fun j _ hj => setRow_other w g j _ (fun e => hj (by simp [e]))⟩ (by simp)
/-- A value is put into a box of its own. -/
theorem wpList_box {P : Program} {ops : Array Oper} {rest : List Oper} {o : Oper} {a : Act} {w : World} {Q : Exit → Act → World → Prop} (hg : o.guard = none) (T : TypeId) (x : Operand) (ho : o.op = .box T x) (cs : Array Value) (hx : a.eval x = .agg cs)
    (h : ∀ w', BoxAt w' w.heap.size T cs → Below w.heap.size w w' → w'.heap.size = w.heap.size + 1 → wpList P ops Q rest (a.put o.dst (.pointer (some ⟨w.heap.size, 0, none⟩))) w') : wpList P ops Q (o :: rest) a w := by
  refine wpList_plain hg fun K hK => ?_
  unfold Oper.wp execOp
  simp only [ho, hx, Sem.run_bind, Instr.box, newVar, newRow, run_newObj_alloc, Sem.run_pure, Result.andThen_ok]
  exact hK _ _ (h _ (BoxAt.new w T cs) ((Below.refl _ w).alloc (Nat.le_refl _) _) (by simp))
/-- A new box of nothing. -/
theorem wpList_new {P : Program} {ops : Array Oper} {rest : List Oper} {o : Oper} {a : Act} {w : World} {Q : Exit → Act → World → Prop} (hg : o.guard = none) (T : TypeId) (ho : o.op = .alloc T) (cs : Array Value) (hz : (P.info? T).bind (·.zero) = some (.agg cs))
    (h : ∀ w', BoxAt w' w.heap.size T cs → Below w.heap.size w w' → w'.heap.size = w.heap.size + 1 → wpList P ops Q rest (a.put o.dst (.pointer (some ⟨w.heap.size, 0, none⟩))) w') : wpList P ops Q (o :: rest) a w := by
  refine wpList_plain hg fun K hK => ?_
  cases hq : P.info? T with
  | none => simp [hq] at hz
  | some i =>
    have hz' : i.zero = some (.agg cs) := by simpa [hq] using hz
    have hzr : (zeroValue T).run P w = .ok (.agg cs) w := by
      unfold zeroValue
      simp [typeInfo, hq, hz']
    unfold Oper.wp execOp
    simp only [ho, Instr.alloc, hzr, Sem.run_bind, newVar, newRow, run_newObj_alloc, Sem.run_pure, Result.andThen_ok]
    exact hK _ _ (h _ (BoxAt.new w T cs) ((Below.refl _ w).alloc (Nat.le_refl _) _) (by simp))

/-- A new variable of one cell. -/
theorem wpList_new1 {P : Program} {ops : Array Oper} {rest : List Oper} {o : Oper} {a : Act} {w : World} {Q : Exit → Act → World → Prop} (hg : o.guard = none) (T : TypeId) (ho : o.op = .alloc T) (z : Value) (hc : z.cells = #[z]) (hz : (P.info? T).bind (·.zero) = some z)
    (h : ∀ w', BoxAt w' w.heap.size T #[z] → Below w.heap.size w w' → w'.heap.size = w.heap.size + 1 → wpList P ops Q rest (a.put o.dst (.pointer (some ⟨w.heap.size, 0, none⟩))) w') : wpList P ops Q (o :: rest) a w := by
  refine wpList_plain hg fun K hK => ?_
  cases hq : P.info? T with
  | none => simp [hq] at hz
  | some i =>
    have hz' : i.zero = some z := by simpa [hq] using hz
    have hzr : (zeroValue T).run P w = .ok z w := by
      unfold zeroValue
      simp [typeInfo, hq, hz']
    unfold Oper.wp execOp
    simp only [ho, Instr.alloc, hzr, Sem.run_bind, newVar, newRow, run_newObj_alloc, Sem.run_pure, Result.andThen_ok, hc]
    exact hK _ _ (h _ (BoxAt.new w T _) ((Below.refl _ w).alloc (Nat.le_refl _) _) (by simp))
/-- A value of one cell is put into a box of its own. -/
theorem wpList_box1 {P : Program} {ops : Array Oper} {rest : List Oper} {o : Oper} {a : Act} {w : World} {Q : Exit → Act → World → Prop} (hg : o.guard = none) (T : TypeId) (x : Operand) (ho : o.op = .box T x) (u : Value) (hu : u.cells = #[u]) (hx : a.eval x = u)
    (h : ∀ w', BoxAt w' w.heap.size T #[u] → Below w.heap.size w w' → w'.heap.size = w.heap.size + 1 → wpList P ops Q rest (a.put o.dst (.pointer (some ⟨w.heap.size, 0, none⟩))) w') : wpList P ops Q (o :: rest) a w := by
  refine wpList_plain hg fun K hK => ?_
  unfold Oper.wp execOp
  simp only [ho, hx, hu, Sem.run_bind, Instr.box, newVar, newRow, run_newObj_alloc, Sem.run_pure, Result.andThen_ok]
  exact hK _ _ (h _ (BoxAt.new w T _) ((Below.refl _ w).alloc (Nat.le_refl _) _) (by simp))
end Go.Proofs.Ytpajidiobifjoaa
