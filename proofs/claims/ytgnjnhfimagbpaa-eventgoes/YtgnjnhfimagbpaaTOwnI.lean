/-
  A slice of ints that a call makes for itself, appended to.
-/
import Derived.Test.YtgnjnhfimagbpaaRows
import Derived.Test.YtgnjnhfimagbpaaLLib
import Derived.Deep.Onto
import Derived.Deep.RegionLaw
namespace Go.Proofs.Ytgnjnhfimagbpaa
open Go.RowKit
set_option linter.unusedVariables false

theorem Try.infoOI : (Try.prog.info? 3).map (fun i => (i.zero, i.size, i.bytes)) = some (some (.int .i64 0), 1, 8) := by kernel_rfl

/-- A slice of the call's own that reads, in w, as L. -/
def OI (w : World) (base : Nat) (v : Value) (L : List Int) : Prop := w.ownsRow base 3 1 v L.length (L.map (Value.int .i64))
theorem OI.sees {w : World} {base : Nat} {v : Value} {L : List Int} (h : OI w base v L) : Sees w .i64 v L := Sees.of_owns h
theorem OI.below {w w' : World} {base : Nat} {v : Value} {L : List Int} (h : OI w base v L) (hb : Below w.heap.size w w') : OI w' base v L := owns_below h hb
theorem OI.lt {w : World} {base : Nat} {v : Value} {L : List Int} (h : OI w base v L) : ∀ k, v.ownBlock = some k → base ≤ k ∧ k < w.heap.size := World.ownsRow.lt h
theorem OI.mono {w : World} {base base' : Nat} {v : Value} {L : List Int} (h : OI w base v L) (hb : base' ≤ base) : OI w base' v L := World.ownsRow.mono h hb
theorem OI.made {w : World} {base g : Nat} {t : TypeId} {ys : List Int} (h : BoxAt w g 3 (ys.map (Value.int .i64)).toArray) (hb : base ≤ g) (hl : ys.length ≤ 1000000) : OI w base (.slice (some ⟨g, 0, none⟩) ys.length ys.length) ys :=
  ⟨by simp, .inr ⟨g, ys.length, (ys.map (Value.int .i64)).toArray, rfl, hb, h, Nat.le_refl _, by unfold maxLen; omega, by simp, by simp [List.take_of_length_le]⟩⟩
theorem Sees.box {w : World} {g : Nat} {t : TypeId} {ys : List Int} (h : BoxAt w g t (ys.map (Value.int .i64)).toArray) (hl : ys.length ≤ 1000000) : Sees w .i64 (.slice (some ⟨g, 0, none⟩) ys.length ys.length) ys := by
  refine .inr ⟨⟨g, 0, none⟩, ys.length, rfl, Nat.le_refl _, by unfold maxLen; omega, fun i hi => ?_⟩
  rw [add_none, Nat.zero_add, h.cell i]
  simp [List.getD, List.getElem?_eq_getElem hi]

theorem app_ints {w : World} {ops : Array Oper} {rest : List Oper} {o : Oper} {a : Act} {Q : Exit → Act → World → Prop} (hgd : o.guard = none) (s x : Operand)
    (ho : o.op = .call { callee := .builtin .append, args := #[s, x], argTypes := #[38, 38] })
    (base : Nat) (v : Value) (L : List Int) (hs : a.eval s = v) (hown : OI w base v L) (y : Value) (ys : List Int) (hx : a.eval x = y) (hsee : Sees w .i64 y ys) (hlen : L.length + ys.length ≤ 1000000) (hbase : base ≤ w.heap.size)
    (h : ∀ v' w', OI w' base v' (L ++ ys) → w.grownBy w' v.ownBlock → Below base w w' → wpList Try.prog ops Q rest (a.put o.dst v') w') : wpList Try.prog ops Q (o :: rest) a w := by
  obtain ⟨i0, hi, hz0, hz1, hz2⟩ := info_parts Try.infoOI
  refine wpList_append_sees hgd s x 38 ho base 3 i0 _ 8 Try.underlying38 hi hz0 hz1 hz2 rfl .i64 v L.length _ hs hown y ys hx hsee (by unfold maxLen; omega) (by omega) hbase (fun v' w' h1 h2 => h v' w' ?_ h2 ((Below.refl _ _).grown h2 hbase (fun k hk => (hown.lt k hk).1)))
  unfold OI
  simpa using h1

theorem step_app_ints {w : World} {ops : Array Oper} {o : Oper} {a : Act} {K : Act → World → Prop} {Q : Exit → Act → World → Prop} {E : Prop} (hgd : o.guard = none) (s x : Operand)
    (ho : o.op = .call { callee := .builtin .append, args := #[s, x], argTypes := #[38, 38] })
    (base : Nat) (v : Value) (L : List Int) (hs : a.eval s = v) (hown : OI w base v L) (y : Value) (ys : List Int) (hx : a.eval x = y) (hsee : Sees w .i64 y ys) (hlen : L.length + ys.length ≤ 1000000) (hbase : base ≤ w.heap.size)
    (h : ∀ v' w', OI w' base v' (L ++ ys) → w.grownBy w' v.ownBlock → Below base w w' → K (a.put o.dst v') w') :
    if Region.wanted o (yielded ops a.tmps) = true then Oper.wp Try.prog o a w K Q else E := by
  have hw : Region.wanted o (yielded ops a.tmps) = true := by simp [Region.wanted, hgd]
  rw [if_pos hw]
  obtain ⟨i0, hi, hz0, hz1, hz2⟩ := info_parts Try.infoOI
  have hK : ∀ v' w', w'.ownsRow base 3 1 v' (L.length + ys.length) (L.map (Value.int .i64) ++ ys.map (Value.int .i64)) → w.grownBy w' v.ownBlock → K (a.put o.dst v') w' := fun v' w' h1 h2 =>
    h v' w' (by unfold OI; simpa using h1) h2 ((Below.refl _ _).grown h2 hbase (fun k hk => (hown.lt k hk).1))
  rcases hsee with ⟨rfl, rfl⟩ | ⟨ad, cap, rfl, h3, h2, hc⟩
  · have hrun := run_append_owned_none (P := Try.prog) w base 38 o.type 3 i0 1 Try.underlying38 hi v L.length _ hown
    unfold Oper.wp
    simp [execOp, ho, resolve, invoke, builtin, hs, hx, hrun, Result.andThen]
    exact hK _ w (by simpa [OI] using hown) (World.grownBy.refl _ _)
  · refine wp_append_own w s x 38 ho base 3 i0 _ 1 8 Try.underlying38 hi hz0 hz1 hz2 rfl (by decide) v L.length _ hs hown ad _ cap (ys.map (Value.int .i64)) hx (by simp) ?_ (ints_oneCell _ _) (by unfold maxLen; omega) (by omega) hbase (fun v' w' a b _ => hK v' w' a b)
    intro j u hj
    rcases Nat.lt_or_ge j ys.length with h | h
    · simp [List.getElem?_map, List.getElem?_eq_getElem h] at hj
      rw [hc j h, ← hj]; simp [List.getD, List.getElem?_eq_getElem h]
    · simp [List.getElem?_map, List.getElem?_eq_none h] at hj

theorem flat_snoc {α : Type} (f : α → List Int) (z : α) (l : List α) (i : Nat) (hi : i < l.length) : (l.take (i + 1)).flatMap f = (l.take i).flatMap f ++ f (l.getD i z) := by
  have : l.take (i + 1) = l.take i ++ [l.getD i z] := by
    rw [List.take_add_one, List.getElem?_eq_getElem hi]; simp [List.getD, List.getElem?_eq_getElem hi]
  rw [this]; simp
end Go.Proofs.Ytgnjnhfimagbpaa
