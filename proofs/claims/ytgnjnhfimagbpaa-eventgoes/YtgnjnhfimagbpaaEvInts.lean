/-
  Lists of integers of the call's own beside lists of those who wait: a literal of one, where such lists lie.
-/
import Derived.Test.YtgnjnhfimagbpaaBLib
import Derived.Test.YtgnjnhfimagbpaaTOwnI
namespace Go.Proofs.Ytgnjnhfimagbpaa
open Go.RowKit
set_option linter.unusedVariables false

theorem OI.nil (w : World) (base : Nat) : OI w base (.slice none 0 0) [] := ⟨rfl, .inl ⟨rfl, rfl⟩⟩

theorem OI.put {w w' : World} {base : Nat} {v : Value} {l : List Int} (h : OI w base v l) {g : Nat} {t : TypeId} {cs : Array Value} (hg : w.grownBy w' (some g)) (hb : BoxAt w g t cs) (ht : t ≠ 3) : OI w' base v l := owns_put h hg hb ht

theorem OI.sl {w : World} {base : Nat} {v : Value} {l : List Int} (h : OI w base v l) : ∃ s : Sl, v = .slice s.a s.n s.c ∧ s.n = l.length ∧ s.n ≤ s.c ∧ s.c ≤ 9223372036854775807 := by
  rcases h.2 with ⟨h, h0⟩ | ⟨g, cap, cur, h, hb, hg, hnc, hcm, _⟩
  · exact ⟨⟨none, 0, 0⟩, by rw [h], by rw [h0], by simp, by simp⟩
  · exact ⟨⟨_, _, cap⟩, h, rfl, hnc, hcm⟩

theorem OI.n {w : World} {base : Nat} {s : Sl} {l : List Int} (h : OI w base s.val l) : s.n = l.length := by
  obtain ⟨r, h1, h2, _⟩ := h.sl
  have : s.n = r.n := by
    unfold Sl.val at h1
    injection h1
  omega

theorem OI.apart {w : World} {base g : Nat} {u : Value} {L : List Int} {t : TypeId} {cs : Array Value} (ho : OI w base u L) (h : BoxAt w g t cs) (ht : t ≠ 3) : some g ≠ u.ownBlock := by
  intro e
  rcases ho.2 with ⟨h2, _⟩ | ⟨g2, cap2, cur2, hv2, hb2, hh2, hrest2⟩
  · rw [h2] at e; simp [Value.ownBlock] at e
  · subst hv2
    simp only [Value.ownBlock, Option.some.injEq] at e
    subst e
    unfold BoxAt at h
    rw [h] at hh2
    injection hh2 with hb
    injection hb with h1 h2 h3
    exact ht h2

theorem owns_over {w w' : World} {base b2 : Nat} {u v : Value} {L : List Int} {e : TypeId} {n : Nat} {xs : List Value} (h : w.ownsRow b2 e 3 u n xs) (ho : OI w base v L) (hg : w.grownBy w' v.ownBlock) (ht : e ≠ 3) : w'.ownsRow b2 e 3 u n xs := by
  refine h.kept hg ?_
  rcases h.2 with ⟨rfl, _⟩ | ⟨b, cap, cur, rfl, _, hh, _⟩
  · exact .inl rfl
  · exact .inr (fun e => (OI.apart ho (show BoxAt w b _ cur from hh) ht) e)

theorem OWt.over {w w' : World} {base b2 : Nat} {u v : Value} {L : List Int} {l : List Wt} (h : OWt w b2 u l) (ho : OI w base v L) (hg : w.grownBy w' v.ownBlock) : OWt w' b2 u l := owns_over h ho hg (by decide)

theorem OWk.over {w w' : World} {base b2 : Nat} {u v : Value} {L : List Int} {l : List Wk} (h : OWk w b2 u l) (ho : OI w base v L) (hg : w.grownBy w' v.ownBlock) : OWk w' b2 u l := owns_over h ho hg (by decide)

theorem run_litI (x : Int) (w : World) : (Instr.buildSlice 38 1 #[(0, .int .i64 x)]).run Try.prog w = .ok (.slice (some ⟨w.heap.size, 0, none⟩) 1 1) (w.alloc (.cells #[.int .i64 x] 3)) := by
  obtain ⟨i0, hi, hz0, hz1, hz2⟩ := info_parts Try.infoOI
  have hs : (sizeOf 3).run Try.prog w = .ok 1 w := by unfold sizeOf; simp [typeInfo, hi, hz1]
  have hz : (zeroValue 3).run Try.prog w = .ok (.int .i64 0) w := by unfold zeroValue; simp [typeInfo, hi, hz0]
  have hf : Instr.fill (fun i => some (i * 1, 1)) ((Array.range (1 * 1)).map (fun j => (Value.int .i64 0).cells[j % (Value.int .i64 0).cells.size]!)) [(0, .int .i64 x)] = some #[.int .i64 x] := by kernel_rfl
  unfold Instr.buildSlice
  simp only [Sem.run_bind, run_underlying Try.underlying38, Result.andThen_ok, hs]
  rw [if_neg (by decide), if_neg (by decide)]
  simp only [Sem.run_bind, hz, Sem.run_pure, Result.andThen_ok, hf, newRow, run_newObj_alloc]

theorem wpList_litI {ops : Array Oper} {rest : List Oper} {o : Oper} {a : Act} {w : World} {Q : Exit → Act → World → Prop} (hg : o.guard = none) (x : Operand) (ho : o.op = .buildSlice 38 1 #[(0, x)]) (r : Int) (hx : a.eval x = .int .i64 r)
    (h : ∀ w', BoxAt w' w.heap.size 3 #[.int .i64 r] → Below w.heap.size w w' → wpList Try.prog ops Q rest (a.put o.dst (.slice (some ⟨w.heap.size, 0, none⟩) 1 1)) w') : wpList Try.prog ops Q (o :: rest) a w := by
  refine wpList_plain hg fun K hK => ?_
  unfold Oper.wp execOp
  simp only [ho, List.map_toArray, List.map_cons, List.map_nil, hx, Sem.run_bind, run_litI, Result.andThen_ok, Sem.run_pure]
  exact hK _ _ (h _ (BoxAt.new w _ _) ((Below.refl _ w).alloc (Nat.le_refl _) _))

theorem step_litI {w : World} {ops : Array Oper} {o : Oper} {a : Act} {K : Act → World → Prop} {Q : Exit → Act → World → Prop} {E : Prop} (hgd : o.guard = none) (x : Operand) (ho : o.op = .buildSlice 38 1 #[(0, x)]) (r : Int) (hx : a.eval x = .int .i64 r)
    (h : ∀ w', BoxAt w' w.heap.size 3 #[.int .i64 r] → Below w.heap.size w w' → K (a.put o.dst (.slice (some ⟨w.heap.size, 0, none⟩) 1 1)) w') :
    if Region.wanted o (yielded ops a.tmps) = true then Oper.wp Try.prog o a w K Q else E := by
  have hw : Region.wanted o (yielded ops a.tmps) = true := by simp [Region.wanted, hgd]
  rw [if_pos hw]
  unfold Oper.wp execOp
  simp only [ho, List.map_toArray, List.map_cons, List.map_nil, hx, Sem.run_bind, run_litI, Result.andThen_ok, Sem.run_pure]
  exact h _ (BoxAt.new w _ _) ((Below.refl _ w).alloc (Nat.le_refl _) _)

end Go.Proofs.Ytgnjnhfimagbpaa
