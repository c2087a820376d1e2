/-
  A slice of processes that a call makes for itself: appended to, a cell of it written.
-/
import Derived.Test.YtdanfnbclbiidaaPLib
import Derived.Deep.Onto
import Derived.Deep.RegionLaw
import Derived.Laws.OwnMore
namespace Go.Proofs.Ytdanfnbclbiidaa
open Go.RowKit
set_option linter.unusedVariables false

theorem Try.infoOP : (Try.prog.info? 57).map (fun i => (i.zero, i.size, i.bytes)) = some (some (.agg Px.zero.cells.toArray), 18, 144) := by kernel_rfl

theorem flat_set (c : Nat) (es : List (List Value)) (hl : ∀ e ∈ es, e.length = c) (i j : Nat) (u : Value) (hi : i < es.length) (hj : j < c) : es.flatten.set (i * c + j) u = (es.set i ((es.getD i []).set j u)).flatten := by
  induction es generalizing i with
  | nil => simp at hi
  | cons e es ih =>
    have he : e.length = c := hl e (by simp)
    rw [List.flatten_cons]
    cases i with
    | zero =>
      rw [Nat.zero_mul, Nat.zero_add, List.set_append_left _ _ (by omega)]
      simp [List.getD]
    | succ i =>
      rw [List.set_append_right _ _ (by rw [he, Nat.succ_mul]; omega)]
      rw [show (i + 1) * c + j - e.length = i * c + j by rw [he, Nat.succ_mul]; omega]
      rw [ih (fun e h => hl e (by simp [h])) i (by simpa using hi)]
      simp [List.getD]

theorem px_lens (l : List Px) : ∀ e ∈ l.map Px.cells, e.length = 18 := fun e he => by obtain ⟨x, _, rfl⟩ := List.mem_map.1 he; rfl
theorem px_one (l : List Px) : ∀ u ∈ (l.map Px.cells).flatten, u.oneCell' = true := by
  intro u hu
  obtain ⟨e, he, hu⟩ := List.mem_flatten.1 hu
  obtain ⟨x, _, rfl⟩ := List.mem_map.1 he
  simp only [Px.cells, List.mem_cons, List.not_mem_nil, or_false] at hu
  rcases hu with rfl | rfl | rfl | rfl | rfl | rfl | rfl | rfl | rfl | rfl | rfl | rfl | rfl | rfl | rfl | rfl | rfl | rfl <;> rfl
theorem px_flat (l : List Px) : (l.map Px.cells).flatten.length = l.length * 18 := by rw [flat_len 18 _ (px_lens l), List.length_map]

/-- A slice of the call's own that reads, in w, as L. -/
def OP (w : World) (base : Nat) (v : Value) (L : List Px) : Prop := w.ownsRow base 57 18 v L.length (L.map Px.cells).flatten
theorem OP.nil (w : World) (base : Nat) : OP w base (.slice none 0 0) [] := ⟨rfl, .inl ⟨rfl, rfl⟩⟩
theorem OP.sees {w : World} {base : Nat} {v : Value} {L : List Px} (h : OP w base v L) : SeesPx w v L := SeesPx.owned rfl h
theorem OP.below {w w' : World} {base : Nat} {v : Value} {L : List Px} (h : OP w base v L) (hb : Below w.heap.size w w') : OP w' base v L := owns_below h hb
theorem OP.lt {w : World} {base : Nat} {v : Value} {L : List Px} (h : OP w base v L) : ∀ k, v.ownBlock = some k → base ≤ k ∧ k < w.heap.size := World.ownsRow.lt h
theorem OP.mono {w : World} {base base' : Nat} {v : Value} {L : List Px} (h : OP w base v L) (hb : base' ≤ base) : OP w base' v L := World.ownsRow.mono h hb
theorem OP.form {w : World} {base : Nat} {v : Value} {L : List Px} (h : OP w base v L) (hp : 0 < L.length) : ∃ g cap, v = .slice (some ⟨g, 0, none⟩) L.length cap ∧ base ≤ g ∧ g < w.heap.size ∧ L.length ≤ cap ∧ cap ≤ 9223372036854775807 := by
  rcases h.2 with ⟨_, h0⟩ | ⟨g, cap, cur, hv, hg, hh, hc, hm, _⟩
  · omega
  · refine ⟨g, cap, hv, hg, ?_, hc, hm⟩
    rcases Nat.lt_or_ge g w.heap.size with h' | h'
    · exact h'
    · rw [Array.getElem?_eq_none h'] at hh; cases hh
theorem OP.at {w : World} {base g cap : Nat} {L : List Px} (h : OP w base (.slice (some ⟨g, 0, none⟩) L.length cap) L) (i : Nat) (hi : i < L.length) : PxAt w g (i * 18) (L.getD i Px.zero) := by
  intro j hj
  rw [h.cellAt (i * 18 + j) (by omega)]
  rw [flat_get 18 _ (px_lens L) i j (by simpa using hi) hj, cells_getDPx L i hi]
theorem OP.free {w : World} {base g cap : Nat} {L : List Px} (h : OP w base (.slice (some ⟨g, 0, none⟩) L.length cap) L) (j : Nat) : w.frozen? ⟨g, j, none⟩ = false := h.frozenAt j
theorem OP.set {w : World} {base g cap : Nat} {L : List Px} (h : OP w base (.slice (some ⟨g, 0, none⟩) L.length cap) L) (i k : Nat) (hi : i < L.length) (hk : k < 18) (r : Px) (u : Value) (hr : r.cells = (L.getD i Px.zero).cells.set k u) :
    OP (w.setCell ⟨g, i * 18 + k, none⟩ u) base (.slice (some ⟨g, 0, none⟩) L.length cap) (L.set i r) := by
  have h1 := (h.stored (i * 18 + k) u).1
  rw [flat_set 18 _ (px_lens L) i k u (by simpa using hi) hk, cells_getDPx L i hi, ← hr, ← List.map_set] at h1
  unfold OP
  rw [List.length_set]
  exact h1

theorem app_px {w : World} {ops : Array Oper} {rest : List Oper} {o : Oper} {a : Act} {Q : Exit → Act → World → Prop} (hgd : o.guard = none) (s x : Operand)
    (ho : o.op = .call { callee := .builtin .append, args := #[s, x], argTypes := #[29, 29] })
    (base : Nat) (v : Value) (L : List Px) (hs : a.eval s = v) (hown : OP w base v L) (y : Value) (ys : List Px) (hx : a.eval x = y) (hsee : SeesPx w y ys) (hlen : L.length + ys.length ≤ 1000000) (hbase : base ≤ w.heap.size)
    (h : ∀ v' w', OP w' base v' (L ++ ys) → w.grownBy w' v.ownBlock → Below base w w' → wpList Try.prog ops Q rest (a.put o.dst v') w') : wpList Try.prog ops Q (o :: rest) a w := by
  obtain ⟨i0, hi, hz0, hz1, hz2⟩ := info_parts Try.infoOP
  have hK : ∀ v' w', w'.ownsRow base 57 18 v' (L.length + ys.length) ((L.map Px.cells).flatten ++ (ys.map Px.cells).flatten) → w.grownBy w' v.ownBlock → wpList Try.prog ops Q rest (a.put o.dst v') w' := fun v' w' h1 h2 =>
    h v' w' (by unfold OP; simpa using h1) h2 ((Below.refl _ _).grown h2 hbase (fun k hk => (hown.lt k hk).1))
  rcases hsee with ⟨rfl, hn⟩ | ⟨ad, cap, rfl, h1, h2, hc⟩
  · have hy : ys = [] := by simpa using hn
    subst hy
    refine wpList_append_own_none hgd s x 29 ho base 57 i0 18 Try.underlying29 hi v L.length _ hs hown hx ?_
    exact hK v w (by simpa [OP] using hown) (World.grownBy.refl _ _)
  · refine wpList_append_own w hgd s x 29 ho base 57 i0 _ 18 144 Try.underlying29 hi hz0 hz1 hz2 rfl (by decide) v L.length _ hs hown ad _ cap (ys.map Px.cells).flatten hx (by rw [px_flat]; simp) (SeesC.cells (px_lens ys) hc) (px_one ys) (by simp; unfold maxLen; omega) (by simp; omega) hbase (fun v' w' a b _ => ?_)
    simp only [List.length_map] at a ⊢
    exact hK v' w' a b

theorem step_app_px {w : World} {ops : Array Oper} {o : Oper} {a : Act} {K : Act → World → Prop} {Q : Exit → Act → World → Prop} {E : Prop} (hgd : o.guard = none) (s x : Operand)
    (ho : o.op = .call { callee := .builtin .append, args := #[s, x], argTypes := #[29, 29] })
    (base : Nat) (v : Value) (L : List Px) (hs : a.eval s = v) (hown : OP w base v L) (y : Value) (ys : List Px) (hx : a.eval x = y) (hsee : SeesPx w y ys) (hlen : L.length + ys.length ≤ 1000000) (hbase : base ≤ w.heap.size)
    (h : ∀ v' w', OP w' base v' (L ++ ys) → w.grownBy w' v.ownBlock → Below base w w' → K (a.put o.dst v') w') :
    if Region.wanted o (yielded ops a.tmps) = true then Oper.wp Try.prog o a w K Q else E := by
  have hw : Region.wanted o (yielded ops a.tmps) = true := by simp [Region.wanted, hgd]
  rw [if_pos hw]
  obtain ⟨i0, hi, hz0, hz1, hz2⟩ := info_parts Try.infoOP
  have hK : ∀ v' w', w'.ownsRow base 57 18 v' (L.length + ys.length) ((L.map Px.cells).flatten ++ (ys.map Px.cells).flatten) → w.grownBy w' v.ownBlock → K (a.put o.dst v') w' := fun v' w' h1 h2 =>
    h v' w' (by unfold OP; simpa using h1) h2 ((Below.refl _ _).grown h2 hbase (fun k hk => (hown.lt k hk).1))
  rcases hsee with ⟨rfl, hn⟩ | ⟨ad, cap, rfl, h3, h2, hc⟩
  · have hy : ys = [] := by simpa using hn
    subst hy
    have hrun := run_append_owned_none (P := Try.prog) w base 29 o.type 57 i0 18 Try.underlying29 hi v L.length _ hown
    unfold Oper.wp
    simp [execOp, ho, resolve, invoke, builtin, hs, hx, hrun, Result.andThen]
    exact hK _ w (by simpa [OP] using hown) (World.grownBy.refl _ _)
  · refine wp_append_own w s x 29 ho base 57 i0 _ 18 144 Try.underlying29 hi hz0 hz1 hz2 rfl (by decide) v L.length _ hs hown ad _ cap (ys.map Px.cells).flatten hx (by rw [px_flat]; simp) (SeesC.cells (px_lens ys) hc) (px_one ys) (by simp; unfold maxLen; omega) (by simp; omega) hbase (fun v' w' a b _ => ?_)
    simp only [List.length_map] at a ⊢
    exact hK v' w' a b

/-- One process in a block of its own, as a slice. -/
theorem SeesPx.box {w : World} {g : Nat} {t : TypeId} {r : Px} (h : BoxAt w g t r.cells.toArray) : SeesPx w (.slice (some ⟨g, 0, none⟩) 1 1) [r] := by
  refine .inr ⟨⟨g, 0, none⟩, 1, rfl, by simp, by unfold maxLen; decide, fun i hi j hj => ?_⟩
  have hi0 : i = 0 := by simp at hi; omega
  subst hi0
  have := PxAt.box h j hj
  rw [add_none]
  simpa [List.getD] using this
end Go.Proofs.Ytdanfnbclbiidaa
