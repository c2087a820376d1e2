/-
  Small laws, whatever the program: blocks known whole, a slice made with room behind its end, integers copied.
-/
import Derived.Test.YtpajidiobifjoaaLib
import Derived.Laws.CopyOwn
namespace Go.Proofs.Ytpajidiobifjoaa
open Go.RowKit
set_option linter.unusedVariables false

/-- Block g, in w, holds the cells cs, and may be written. -/
def BoxAt (w : World) (g : Nat) (t : TypeId) (cs : Array Value) : Prop := w.heap[g]? = some (.cells cs t (0, 0))

theorem BoxAt.lt {w : World} {g : Nat} {t : TypeId} {cs : Array Value} (h : BoxAt w g t cs) : g < w.heap.size := by
  rcases Nat.lt_or_ge g w.heap.size with h' | h'
  · exact h'
  · unfold BoxAt at h; simp [Array.getElem?_eq_none h'] at h

theorem BoxAt.cell {w : World} {g : Nat} {t : TypeId} {cs : Array Value} (h : BoxAt w g t cs) (j : Nat) : w.cell? ⟨g, j, none⟩ = cs[j]? := cell_of_row w g j cs t (0, 0) h

theorem BoxAt.free {w : World} {g : Nat} {t : TypeId} {cs : Array Value} (h : BoxAt w g t cs) (j : Nat) : w.frozen? ⟨g, j, none⟩ = false := frozen_of_row w g j cs t h

theorem BoxAt.below {w w' : World} {B g : Nat} {t : TypeId} {cs : Array Value} (h : BoxAt w g t cs) (hb : Below B w w') (hg : g < B) : BoxAt w' g t cs := (hb.block g hg).trans h

theorem BoxAt.belowAll {w w' : World} {g : Nat} {t : TypeId} {cs : Array Value} (h : BoxAt w g t cs) (hb : Below w.heap.size w w') : BoxAt w' g t cs := h.below hb h.lt

theorem BoxAt.grown {w w' : World} {row : Option Nat} {g : Nat} {t : TypeId} {cs : Array Value} (h : BoxAt w g t cs) (hg : w.grownBy w' row) (hne : some g ≠ row) : BoxAt w' g t cs := (hg.block g h.lt hne).trans h

theorem BoxAt.new (w : World) (t : TypeId) (cs : Array Value) : BoxAt (w.alloc (.cells cs t)) w.heap.size t cs := heap_alloc_new w _

theorem BoxAt.alloc {w : World} {g : Nat} {t : TypeId} {cs : Array Value} (h : BoxAt w g t cs) (o : Obj) : BoxAt (w.alloc o) g t cs := (Below.heap_alloc w o g h.lt).trans h

theorem BoxAt.set {w : World} {g : Nat} {t : TypeId} {cs : Array Value} (h : BoxAt w g t cs) (j : Nat) (u : Value) : BoxAt (w.setCell ⟨g, j, none⟩ u) g t (cs.setIfInBounds j u) := heap_setCell_same w g j cs t u h

theorem BoxAt.other {w : World} {g g' j : Nat} {t : TypeId} {cs : Array Value} (h : BoxAt w g t cs) (hg : g ≠ g') (u : Value) : BoxAt (w.setCell ⟨g', j, none⟩ u) g t cs := (heap_setCell_other w ⟨g', j, none⟩ g u hg).trans h

theorem BoxAt.drew {w : World} {g : Nat} {t : TypeId} {cs : Array Value} (h : BoxAt w g t cs) : BoxAt w.drew g t cs := h

/-- 'make([]T, n, c)', n and c variables: n zero elements are owned, with room for c. -/
theorem wpList_make_room {P : Program} (w : World) {ops : Array Oper} {rest : List Oper} {o : Oper} {a : Act} {Q : Exit → Act → World → Prop}
    (hg : o.guard = none) (l c : Operand) (t : TypeId) (hop : o.op = Op.makeSlice t l c)
    (base : Nat) (e : TypeId) (i : TypeInfo) (z : Value) (h1 : P.underlying t = some (.slice e)) (h2 : P.info? e = some i) (h3 : i.zero = some z) (h4 : i.size = 1) (hzc : z.cells = #[z])
    (kl kc : IntKind) (L C : Int) (n m : Nat) (hl : a.eval l = .int kl L) (hc : a.eval c = .int kc C) (hL : L = (n : Int)) (hC : C = (m : Int)) (hnm : n ≤ m) (b2 : i.bytes * m ≤ 281474976710656) (b3 : m ≤ maxLen) (b4 : base ≤ w.heap.size)
    (hK : ∀ w', w'.ownsRow base e 1 (.slice (some ⟨w.heap.size, 0, none⟩) n m) n (List.replicate n z) → w.grownBy w' none → wpList P ops Q rest (a.put o.dst (.slice (some ⟨w.heap.size, 0, none⟩) n m)) w') :
    wpList P ops Q (o :: rest) a w := by
  refine wpList_plain hg fun K hK' => ?_
  have h63' : (m : Int) ≤ 9223372036854775807 := by
    have h := b3
    simp [maxLen] at h
    omega
  have hb' : (i.bytes : Int) * (m : Int) ≤ 281474976710656 := by
    have h : ((i.bytes * m : Nat) : Int) ≤ 281474976710656 := by omega
    rwa [Int.natCast_mul] at h
  have hr := run_make (P := P) w t e i z h1 h2 h3 kl kc n m (by omega) (by omega) hb' h63'
  simp only [Int.toNat_natCast] at hr
  subst hL
  subst hC
  unfold Oper.wp
  simp [execOp, hop, hl, hc, hr, Result.andThen]
  refine hK' _ _ (hK _ ⟨by simp, .inr ⟨w.heap.size, m, _, rfl, b4, heap_alloc_new w _, hnm, b3, by simp [size_madeCells, h4], ?_⟩⟩ (World.grownBy_alloc w _ none))
  rw [hzc, h4, toList_madeCells_one]
  simp [List.take_replicate]
  omega

/-- 'copy(dst, src)', dst a row of the call's own with as many elements as src, which is any slice of integers that is read. -/
theorem wpList_copy_sees {P : Program} {w : World} {ops : Array Oper} {rest : List Oper} {o : Oper} {a : Act} {Q : Exit → Act → World → Prop} (hgd : o.guard = none) (d s : Operand) (dT sT : TypeId)
    (ho : o.op = .call { callee := .builtin .copy, args := #[d, s], argTypes := #[dT, sT] }) (e : TypeId) (hu : P.underlying dT = some (.slice e)) (hsz : (P.info? e).map (·.size) = some 1)
    (base g n cap : Nat) (old : List Value) (hd : a.eval d = .slice (some ⟨g, 0, none⟩) n cap) (hown : w.ownsRow base e 1 (.slice (some ⟨g, 0, none⟩) n cap) n old)
    (k : IntKind) (y : Value) (ys : List Int) (hy : a.eval s = y) (hsee : Sees w k y ys) (hn : ys.length = n)
    (h : ∀ w', w'.ownsRow base e 1 (.slice (some ⟨g, 0, none⟩) n cap) n (ys.map (Value.int k)) → w.grownBy w' (some g) → wpList P ops Q rest (a.put o.dst (goInt n)) w') : wpList P ops Q (o :: rest) a w := by
  rcases hown.2 with ⟨h', _⟩ | ⟨g', cap', cur, h', hb, hg, hnc, hcm, hcs, htake⟩
  · simp at h'
  simp only [Value.slice.injEq, Option.some.injEq, Addr.mk.injEq, and_true, true_and] at h'
  obtain ⟨rfl, rfl⟩ := h'
  rcases hsee with ⟨rfl, rfl⟩ | ⟨ad, c2, rfl, h1, h2, hc⟩
  · simp at hn
    subst hn
    refine wpList_copy_nothing hgd d s dT sT ho e hu hsz _ _ _ _ _ _ hd hy (by simp) ?_
    exact h w (by have := hown; have ho : old = [] := List.eq_nil_of_length_eq_zero (by simpa using hown.1); subst ho; simpa using this) (World.grownBy.refl _ _)
  · have hcl : (ys.map (Value.int k)).length = Nat.min ys.length n := by rw [List.length_map, hn]; exact (Nat.min_self n).symm
    refine wpList_copy_own hgd d s dT sT ho e hu hsz g 0 n cap ad _ _ hd hy cur e hg (ys.map (Value.int k)) hcl ?_ (by simp; omega) (ints_oneCell _ _) ?_
    · intro j u hj
      rcases Nat.lt_or_ge j ys.length with hj' | hj'
      · simp [List.getElem?_map, List.getElem?_eq_getElem hj'] at hj
        subst hj
        rw [hc j hj']; simp [List.getD, List.getElem?_eq_getElem hj']
      · simp [List.getElem?_eq_none (show (ys.map (Value.int k)).length ≤ j by simpa using hj')] at hj
    · have := h (w.setRow g ((ys.map (Value.int k)) ++ cur.toList.drop n).toArray) ⟨by simp [hn], .inr ⟨g, cap, _, rfl, hb, setRow_heap w g cur _ e _ hg, hnc, hcm, ?_, ?_⟩⟩ ⟨rfl, rfl, rfl, by simp, fun j _ hj => setRow_other w g j _ (fun e => hj (by simp [e]))⟩
      · simpa [hn] using this
      · simp [hn]; omega
      · subst hn; simp

theorem BoxAt.cellA {w : World} {g : Nat} {t : TypeId} {cs : Array Value} (h : BoxAt w g t cs) (j : Nat) (u : Value) (hu : cs[j]? = some u) : ∀ o, (w.alloc o).cell? ⟨g, j, none⟩ = some u := fun o => ((h.alloc o).cell j).trans hu

theorem cellA {w : World} {p : Addr} {u : Value} (h : w.cell? p = some u) : ∀ o, (w.alloc o).cell? p = some u := fun o => by
  rw [((Below.refl w.heap.size w).alloc (Nat.le_refl _) o).cell (World.block_lt_of_cell? w _ h)]; exact h

theorem BoxAt.set3 {w : World} {g : Nat} {t : TypeId} {a b c : Value} (h : BoxAt w g t #[a, b, c]) (x y z : Value) :
    BoxAt (((w.setCell ⟨g, 0, none⟩ x).setCell ⟨g, 1, none⟩ y).setCell ⟨g, 2, none⟩ z) g t #[x, y, z] := by
  have := ((h.set 0 x).set 1 y).set 2 z
  simpa using this

/-- What is owned from a block on is owned from an earlier one on. -/
theorem owns_lower {w : World} {base base' : Nat} {e : TypeId} {size : Nat} {v : Value} {n : Nat} {xs : List Value} (h : w.ownsRow base e size v n xs) (hb : base' ≤ base) : w.ownsRow base' e size v n xs := by
  refine ⟨h.1, ?_⟩
  rcases h.2 with h | ⟨g, cap, cur, hv, hg, hrest⟩
  · exact .inl h
  · exact .inr ⟨g, cap, cur, hv, Nat.le_trans hb hg, hrest⟩
end Go.Proofs.Ytpajidiobifjoaa
