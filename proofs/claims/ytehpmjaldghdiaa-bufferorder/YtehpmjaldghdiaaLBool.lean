/-
  A slice of bools that is read; append onto an own slice, and where what it returns lies.
-/
import Derived.Test.YtehpmjaldghdiaaRows
import Derived.Test.YtehpmjaldghdiaaLLib
import Derived.Deep.AppendLies
import Derived.Deep.Grids
namespace Go.Proofs.Ytehpmjaldghdiaa
open Go.RowKit Go.Deep Go.ChangeShapes Go.WideShapes
set_option linter.unusedVariables false

/-- A slice of bools that reads, in w, as bs. -/
def SeesB (w : World) (v : Value) (bs : List Bool) : Prop :=
  (v = .slice none 0 0 ∧ bs = []) ∨
  ∃ x cap, v = .slice (some x) bs.length cap ∧ bs.length ≤ cap ∧ cap ≤ maxLen ∧ ∀ i, i < bs.length → w.cell? (x.add i) = some (.bool (bs.getD i false))

theorem SeesB.nil (w : World) : SeesB w (.slice none 0 0) [] := .inl ⟨rfl, rfl⟩

theorem SeesB.form {w : World} {v : Value} {bs : List Bool} (h : SeesB w v bs) : ∃ a cap, v = .slice a bs.length cap ∧ bs.length ≤ cap ∧ cap ≤ maxLen ∧
    (0 < bs.length → ∃ b off, a = some ⟨b, off, none⟩ ∧ b < w.heap.size ∧ ∀ i, i < bs.length → w.cell? ⟨b, off + i, none⟩ = some (.bool (bs.getD i false))) := by
  rcases h with ⟨rfl, rfl⟩ | ⟨x, cap, rfl, h1, h2, hc⟩
  · exact ⟨none, 0, rfl, by simp, by simp, by simp⟩
  · refine ⟨some x, cap, rfl, h1, h2, fun hp => ?_⟩
    obtain ⟨b, off, spot⟩ := x
    have h0 := hc 0 hp
    have hspot : spot = none := by simpa [Addr.add] using World.cell?_spot h0
    subst hspot
    refine ⟨b, off, rfl, ?_, fun i hi => by rw [← add_none]; exact hc i hi⟩
    have := World.block_lt_of_cell? w _ h0
    rw [add_none] at this
    exact this

/-- append of nothing onto an own slice is that slice. -/
theorem run_append_empty {P : Program} (w : World) (base : Nat) (t ty e : TypeId) (i : TypeInfo) (size : Nat) (ht : P.underlying t = some (.slice e)) (hi : P.info? e = some i)
    (v : Value) (n : Nat) (xs : List Value) (hown : w.ownsRow base e size v n xs) (a : Option Addr) (c : Nat) :
    (Builtin.append_ #[t, t] ty #[v, .slice a 0 c]).run P w = .ok v w := by
  cases a with
  | none =>
    rcases hown.2 with ⟨rfl, rfl⟩ | ⟨g, cap, cur, rfl, _, _, hnc, _⟩
    · simp [Builtin.append_, run_underlying ht, sizeOf, typeInfo, hi, Builtin.lenOf, Builtin.firstCells]
    · simp [Builtin.append_, run_underlying ht, sizeOf, typeInfo, hi, Builtin.lenOf, Builtin.firstCells, hnc, storeCells]
  | some x =>
    have h := run_loadCells_list (P := P) w x [] (by simp)
    simp at h
    rcases hown.2 with ⟨rfl, rfl⟩ | ⟨g, cap, cur, rfl, _, _, hnc, _⟩
    · simp [Builtin.append_, run_underlying ht, sizeOf, typeInfo, hi, Builtin.lenOf, Builtin.firstCells, h]
    · simp [Builtin.append_, run_underlying ht, sizeOf, typeInfo, hi, Builtin.lenOf, Builtin.firstCells, hnc, storeCells, h]

/-- 'append(s, x...)' where s is the call's own and x is any slice of integers that is read; what it returns lies where s lay, or in a new block. -/
theorem wpList_append_at {P : Program} {w : World} {ops : Array Oper} {rest : List Oper} {o : Oper} {a : Act} {Q : Exit → Act → World → Prop} (hgd : o.guard = none) (s x : Operand) (t : TypeId)
    (ho : o.op = .call { callee := .builtin .append, args := #[s, x], argTypes := #[t, t] })
    (base : Nat) (e : TypeId) (i : TypeInfo) (z : Value) (bytes : Nat) (ht : P.underlying t = some (.slice e)) (hi : P.info? e = some i) (hz : i.zero = some z)
    (hsize : i.size = 1) (hby : i.bytes = bytes) (hzs : z.cells.size = 1) (k : IntKind)
    (v : Value) (n : Nat) (xs : List Value) (hs : a.eval s = v) (hown : w.ownsRow base e 1 v n xs)
    (y : Value) (ys : List Int) (hx : a.eval x = y) (hsee : Sees w k y ys)
    (h63 : n + ys.length ≤ maxLen) (hbytes : (n + ys.length) * bytes ≤ 140737488355328) (hbase : base ≤ w.heap.size)
    (h : ∀ v' w', w'.ownsRow base e 1 v' (n + ys.length) (xs ++ ys.map (Value.int k)) → w.grownBy w' v.ownBlock → (∀ b, v'.ownBlock = some b → v.ownBlock = some b ∨ w.heap.size ≤ b) → wpList P ops Q rest (a.put o.dst v') w') : wpList P ops Q (o :: rest) a w := by
  rcases Nat.eq_zero_or_pos ys.length with h0 | h0
  · obtain rfl : ys = [] := List.eq_nil_of_length_eq_zero h0
    obtain ⟨ya, yc, rfl, _⟩ := hsee.form
    refine wpList_plain hgd fun K hK => ?_
    have hrun := run_append_empty (P := P) w base t o.type e i 1 ht hi v n xs hown ya yc
    unfold Oper.wp execOp
    simp only [ho, resolve, invoke, builtin, Sem.run_bind, Sem.run_pure, Result.andThen_ok, List.map_toArray, List.map_cons, List.map_nil, hs, hx, List.length_nil, hrun]
    exact hK _ _ (h v w (by simpa using hown) (World.grownBy.refl _ _) (fun b hb => .inl hb))
  · rcases hsee with ⟨rfl, rfl⟩ | ⟨ad, cap, rfl, h1, h2, hc⟩
    · simp at h0
    · refine wpList_append_lies w hgd s x t ho base e i z 1 bytes ht hi hz hsize hby hzs (by decide) v n xs hs hown ad _ _ (ys.map (Value.int k)) hx (by simp) ?_ (ints_oneCell _ _) h0 h63 hbytes hbase _ rfl (fun g cap w' h2 h3 h4 h5 => h _ w' h2 h3 (fun b hb => by
        simp [Value.ownBlock] at hb
        rcases h4 with h4 | h4
        · exact .inl (by rw [h4, hb])
        · exact .inr (by omega)))
      intro j u hj
      rcases Nat.lt_or_ge j ys.length with hj' | hj'
      · simp [List.getElem?_map, List.getElem?_eq_getElem hj'] at hj
        subst hj
        rw [hc j hj']; simp [List.getD, List.getElem?_eq_getElem hj']
      · simp [List.getElem?_eq_none (show (ys.map (Value.int k)).length ≤ j by simpa using hj')] at hj

/-- Two slices that do not lie in one block. -/
def Apart (v u : Value) : Prop := ∀ b, v.ownBlock = some b → u.ownBlock ≠ some b
theorem Apart.symm {v u : Value} (h : Apart v u) : Apart u v := fun b h1 h2 => h b h2 h1
theorem Apart.nil (u : Value) : Apart (.slice none 0 0) u := fun b h => by simp [Value.ownBlock] at h
theorem Apart.ne {v u : Value} (h : Apart v u) : v.ownBlock = none ∨ v.ownBlock ≠ u.ownBlock := by
  cases hv : v.ownBlock with
  | none => exact .inl rfl
  | some b => exact .inr (fun e => h b hv e.symm)

theorem owned_below {w : World} {base : Nat} {e : TypeId} {size : Nat} {v : Value} {n : Nat} {xs : List Value} (h : w.ownsRow base e size v n xs) : ∀ b, v.ownBlock = some b → base ≤ b ∧ b < w.heap.size := by
  intro b hb
  rcases h.2 with ⟨rfl, _⟩ | ⟨g, cap, cur, rfl, hg, hh, _⟩
  · simp [Value.ownBlock] at hb
  · simp [Value.ownBlock] at hb
    subst hb
    refine ⟨hg, ?_⟩
    rcases Nat.lt_or_ge g w.heap.size with h | h
    · exact h
    · simp [Array.getElem?_eq_none h] at hh

/-- What is new is apart from what was there. -/
theorem Apart.fresh {w w' : World} {base base' : Nat} {e e' : TypeId} {size size' : Nat} {v u : Value} {n n' : Nat} {xs xs' : List Value} (h : w.ownsRow base e size v n xs) (h' : w'.ownsRow base' e' size' u n' xs') (hb : w.heap.size ≤ base') : Apart v u := by
  intro b h1 h2
  have := (owned_below h b h1).2
  have := (owned_below h' b h2).1
  omega
theorem Apart.grown {w : World} {base : Nat} {e : TypeId} {size : Nat} {v u u' : Value} {n : Nat} {xs : List Value} (h : Apart v u) (ho : w.ownsRow base e size v n xs) (hu : ∀ b, u'.ownBlock = some b → u.ownBlock = some b ∨ w.heap.size ≤ b) : Apart v u' := by
  intro b h1 h2
  rcases hu b h2 with h3 | h3
  · exact h b h1 h3
  · have := (owned_below ho b h1).2; omega
end Go.Proofs.Ytehpmjaldghdiaa
