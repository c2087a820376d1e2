/-
  A row of bools of the call's own, as it tells of a list of numbers; those who wait, put in by rank: their order, and that none is twice.
-/
import Derived.Test.YtnbifmfocdejpaaVAdd
import Derived.Laws.OwnMore
namespace Go.Proofs.Ytnbifmfocdejpaa
open Go.RowKit
set_option linter.unusedVariables false

def toldL (n : Nat) (T : List Nat) : List Bool := (List.range n).map (fun i => decide (i ∈ T))
theorem told_len (n : Nat) (T : List Nat) : (toldL n T).length = n := by unfold toldL; simp
theorem told_get (n : Nat) (T : List Nat) (i : Nat) (hi : i < n) : ((toldL n T).map Value.bool)[i]? = some (.bool (decide (i ∈ T))) := by
  unfold toldL; simp [hi]
theorem told_none (n : Nat) : (toldL n []).map Value.bool = List.replicate n (.bool false) := by
  apply List.ext_getElem
  · simp [told_len]
  · intro i h1 h2
    simp [toldL]
theorem told_set (n : Nat) (T : List Nat) (m : Nat) : ((toldL n T).map Value.bool).set m (.bool true) = (toldL n (T ++ [m])).map Value.bool := by
  apply List.ext_getElem
  · simp [told_len]
  · intro i h1 h2
    rw [List.getElem_set]
    by_cases e : m = i
    · subst e; simp [toldL]
    · rw [if_neg e]
      simp [toldL]
      intro h; exact absurd h.symm e

theorem Try.infoOB : (Try.prog.info? 4).map (fun i => (i.zero, i.size, i.bytes)) = some (some (.bool false), 1, 1) := by kernel_rfl

/-- The row of bools. -/
def OT (w : World) (g n : Nat) (T : List Nat) : Prop := w.ownsRow g 4 1 (.slice (some ⟨g, 0, none⟩) n n) n ((toldL n T).map Value.bool)
theorem OT.below {w w' : World} {g n : Nat} {T : List Nat} (h : OT w g n T) (hb : Below w.heap.size w w') : OT w' g n T := owns_below h hb
theorem OT.cell {w : World} {g n : Nat} {T : List Nat} (h : OT w g n T) (i : Nat) (hi : i < n) : w.cell? ⟨g, i, none⟩ = some (.bool (decide (i ∈ T))) := by
  rw [h.cellAt i (by omega), told_get n T i hi]
theorem OT.lt {w : World} {g n : Nat} {T : List Nat} (h : OT w g n T) : g < w.heap.size := (World.ownsRow.lt h g rfl).2
theorem OT.free {w : World} {g n : Nat} {T : List Nat} (h : OT w g n T) (i : Nat) : w.frozen? ⟨g, i, none⟩ = false := h.frozenAt i
theorem OT.set {w : World} {g n : Nat} {T : List Nat} (h : OT w g n T) (m : Nat) : OT (w.setCell ⟨g, m, none⟩ (.bool true)) g n (T ++ [m]) := by
  have := (h.stored m (.bool true)).1
  rw [told_set] at this
  exact this

/-- One who is put in by rank, one behind the other. -/
def insW : List Wt → Wt → List Wt
  | [], x => [x]
  | y :: M, x => if y.r < x.r then x :: y :: M else y :: insW M x
theorem addP_ins (M : List Wt) (x : Wt) : addP M x true = insW M x := by
  unfold addP putP
  simp only [if_true]
  unfold placeP
  induction M with
  | nil => rfl
  | cons y M ih =>
    by_cases h : y.r < x.r
    · simp [List.findIdx_cons, h, insW]
    · simp only [List.findIdx_cons, h, decide_false, cond_false, List.take_succ_cons, List.drop_succ_cons, List.cons_append, insW, if_false]
      rw [ih]
theorem ins_mem (M : List Wt) (x z : Wt) (h : z ∈ insW M x) : z = x ∨ z ∈ M := by
  induction M with
  | nil => simpa [insW] using h
  | cons y M ih =>
    unfold insW at h
    split at h
    · simpa using h
    · rcases List.mem_cons.1 h with h | h
      · right; simp [h]
      · rcases ih h with h | h
        · left; exact h
        · right; simp [h]
theorem ins_len (M : List Wt) (x : Wt) : (insW M x).length = M.length + 1 := by
  induction M with
  | nil => rfl
  | cons y M ih => unfold insW; split <;> simp [ih]

/-- Who goes ahead of whom: the greater priority, of the same who came first. -/
def ahdW (a b : Wt) : Prop := b.r < a.r ∨ (b.r = a.r ∧ a.v < b.v)
theorem ins_ord (M : List Wt) (x : Wt) (hv : ∀ y ∈ M, y.v < x.v) (h : M.Pairwise ahdW) : (insW M x).Pairwise ahdW := by
  induction M with
  | nil => simp [insW]
  | cons y M ih =>
    rw [List.pairwise_cons] at h
    unfold insW
    split
    · rename_i hlt
      refine List.pairwise_cons.2 ⟨fun z hz => ?_, List.pairwise_cons.2 h⟩
      rcases List.mem_cons.1 hz with rfl | hz
      · exact .inl hlt
      · rcases h.1 z hz with h1 | h1
        · left; omega
        · left; omega
    · rename_i hge
      refine List.pairwise_cons.2 ⟨fun z hz => ?_, ih (fun y hy => hv y (by simp [hy])) h.2⟩
      rcases ins_mem M x z hz with rfl | hz
      · have := hv y (by simp)
        unfold ahdW
        omega
      · exact h.1 z hz
theorem ins_dif (M : List Wt) (x : Wt) (hv : ∀ y ∈ M, y.v ≠ x.v) (h : M.Pairwise (fun a b => a.v ≠ b.v)) : (insW M x).Pairwise (fun a b => a.v ≠ b.v) := by
  induction M with
  | nil => simp [insW]
  | cons y M ih =>
    have h0 := h
    rw [List.pairwise_cons] at h
    unfold insW
    split
    · refine List.pairwise_cons.2 ⟨fun z hz => fun e => hv z hz e.symm, h0⟩
    · refine List.pairwise_cons.2 ⟨fun z hz => ?_, ih (fun y hy => hv y (by simp [hy])) h.2⟩
      rcases ins_mem M x z hz with rfl | hz
      · exact hv y (by simp)
      · exact h.1 z hz

/-- What the first i, numbered in the order of coming and put in by rank, are. -/
structure Rk (M : List Wt) (i : Nat) : Prop where
  len : M.length = i
  fit : ∀ y ∈ M, 0 ≤ y.v ∧ y.v < i
  dif : M.Pairwise (fun a b => a.v ≠ b.v)
  ord : M.Pairwise ahdW
theorem Rk.start : Rk [] 0 := ⟨rfl, by simp, by simp, by simp⟩
theorem Rk.next {M : List Wt} {i : Nat} (h : Rk M i) (p r : Int) : Rk (addP M ⟨p, r, i⟩ true) (i + 1) := by
  rw [addP_ins]
  refine ⟨by rw [ins_len, h.len], fun y hy => ?_, ins_dif _ _ (fun y hy => ?_) h.dif, ins_ord _ _ (fun y hy => (h.fit y hy).2) h.ord⟩
  · rcases ins_mem _ _ _ hy with rfl | hy
    · simp; omega
    · have := h.fit y hy; omega
  · have := (h.fit y hy).2
    intro e
    simp only at e
    omega
/-- The places of those who were seen. -/
def seenL (M : List Wt) (i : Nat) : List Nat := (M.take i).map (fun y => y.v.toNat)
theorem seenL_next (M : List Wt) (i : Nat) (hi : i < M.length) : seenL M (i + 1) = seenL M i ++ [(M.getD i Wt.zero).v.toNat] := by
  have h2 : M.take (i + 1) = M.take i ++ [M.getD i Wt.zero] := by rw [List.take_add_one, List.getElem?_eq_getElem hi]; simp [List.getD, List.getElem?_eq_getElem hi]
  unfold seenL
  rw [h2, List.map_append]
  rfl
theorem Rk.at {M : List Wt} {n : Nat} (h : Rk M n) (i : Nat) (hi : i < n) : 0 ≤ (M.getD i Wt.zero).v ∧ (M.getD i Wt.zero).v < n := by
  have hi' : i < M.length := by rw [h.len]; exact hi
  have : M.getD i Wt.zero ∈ M := by simp [List.getD, List.getElem?_eq_getElem hi']
  exact h.fit _ this
theorem Rk.fresh {M : List Wt} {n : Nat} (h : Rk M n) (i : Nat) (hi : i < n) : (M.getD i Wt.zero).v.toNat ∉ seenL M i := by
  have hi' : i < M.length := by rw [h.len]; exact hi
  intro hm
  unfold seenL at hm
  obtain ⟨y, hy, he⟩ := List.mem_map.1 hm
  obtain ⟨j, hj, rfl⟩ := List.mem_iff_getElem.1 hy
  simp only [List.length_take] at hj
  have hjl : j < M.length := by omega
  have h1 := List.pairwise_iff_getElem.1 h.dif j i hjl hi' (by omega)
  have h2 := h.fit (M[j]) (List.getElem_mem hjl)
  have h3 := h.at i hi
  simp [List.getD, List.getElem?_eq_getElem hi'] at he h3
  omega
theorem Rk.order {M : List Wt} {n : Nat} (h : Rk M n) (i : Nat) (hi : i + 1 < n) : ahdW (M.getD i Wt.zero) (M.getD (i + 1) Wt.zero) := by
  have hi' : i + 1 < M.length := by rw [h.len]; exact hi
  have h1 := List.pairwise_iff_getElem.1 h.ord i (i + 1) (by omega) hi' (by omega)
  simpa [List.getD, List.getElem?_eq_getElem hi', List.getElem?_eq_getElem (show i < M.length by omega)] using h1
end Go.Proofs.Ytnbifmfocdejpaa
