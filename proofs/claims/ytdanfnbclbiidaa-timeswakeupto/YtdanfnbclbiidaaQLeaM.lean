/-
  Rows of objects of the call's own, whose lists are cleared one after the other.
-/
import Derived.Test.YtdanfnbclbiidaaQRef3
namespace Go.Proofs.Ytdanfnbclbiidaa
open Go.RowKit
set_option linter.unusedVariables false

theorem row_form {w : World} {base : Nat} {e : TypeId} {size : Nat} {v : Value} {n : Nat} {xs : List Value} (h : w.ownsRow base e size v n xs) : ∃ a cap, v = .slice a n cap ∧ n ≤ cap ∧ cap ≤ 9223372036854775807 ∧ (0 < n → ∃ g, a = some ⟨g, 0, none⟩ ∧ base ≤ g ∧ g < w.heap.size) := by
  by_cases hn : 0 < n
  · obtain ⟨g, cap, hv, h1, h2, h3, h4⟩ := owns_formQ h hn
    exact ⟨_, cap, hv, h3, h4, fun _ => ⟨g, rfl, h1, h2⟩⟩
  · have hn0 : n = 0 := by omega
    subst hn0
    rcases h.2 with ⟨rfl, _⟩ | ⟨g, cap, cur, rfl, _, hh, hc, hm, _⟩
    · exact ⟨none, 0, rfl, Nat.le_refl _, by decide, fun h => absurd h (by decide)⟩
    · exact ⟨_, cap, rfl, hc, hm, fun h => absurd h (by decide)⟩
theorem OWt.sl {w : World} {base : Nat} {u : Value} {l : List Wt} (h : OWt w base u l) : ∃ s : Sl, u = .slice s.a s.n s.c := by
  obtain ⟨a, cap, hv, _⟩ := row_form h
  exact ⟨⟨a, l.length, cap⟩, hv⟩
theorem Turns.boxed {S : TypeId → Prop} {w : World} {base : Nat} {e : TypeId} {size g n cap j : Nat} {xs : List Value} (h : w.ownsRow base e size (.slice (some ⟨g, 0, none⟩) n cap) n xs) (hs : S e) (u : Value) : Turns S w (w.setCell ⟨g, j, none⟩ u) := by
  obtain ⟨cs, hb, _⟩ := owns_box h
  exact Turns.set hb hs u


/-- What is left of one of these when a process has left it. -/
def outBd (i : Int) (b : Bd) : Bd := { b with l := b.l.filter fun x => !isW i x }
/-- One of these: its list is the call's own, the rest is as it was in w0. -/
structure BdH (w0 w : World) (base : Nat) (q : BdV) (x : Bd) : Prop where
  is : q.is = x.is
  v : q.v = x.v
  l : OWt w base q.l.val x.l
theorem BdH.below {w0 w w' : World} {base : Nat} {q : BdV} {x : Bd} (h : BdH w0 w base q x) (hb : Below w.heap.size w w') : BdH w0 w' base q x := ⟨h.is, h.v, h.l.below hb⟩
theorem BdH.turn {w0 w w' : World} {base : Nat} {q : BdV} {x : Bd} (h : BdH w0 w base q x) {S : TypeId → Prop} (hw : ¬ S 104) (ht : Turns S w w') : BdH w0 w' base q x := ⟨h.is, h.v, h.l.turn hw ht⟩
theorem BdH.at {w0 w : World} {base : Nat} {q : BdV} {x : Bd} (h : BdH w0 w base q x) (h0 : Below w0.heap.size w0 w) : BdAt w q x := ⟨h.is, h.v, h.l.sees⟩
def FBd (w0 w : World) (base : Nat) (v : Value) (l : List Bd) : Prop := ∃ rs : List BdV, OBdV w base v rs ∧ rs.length = l.length ∧ ∀ j, j < rs.length → BdH w0 w base (rs.getD j BdV.zero) (l.getD j Bd.zero)
theorem FBd.below {w0 w w' : World} {base : Nat} {v : Value} {l : List Bd} (h : FBd w0 w base v l) (hb : Below w.heap.size w w') : FBd w0 w' base v l := by
  obtain ⟨rs, a, b, c⟩ := h
  exact ⟨rs, a.below hb, b, fun j hj => (c j hj).below hb⟩
theorem FBd.turn {w0 w w' : World} {base : Nat} {v : Value} {l : List Bd} (h : FBd w0 w base v l) {S : TypeId → Prop} (hs : ¬ S 67) (hw : ¬ S 104) (ht : Turns S w w') : FBd w0 w' base v l := by
  obtain ⟨rs, a, b, c⟩ := h
  exact ⟨rs, a.turn hs ht, b, fun j hj => (c j hj).turn hw ht⟩
theorem FBd.at {w0 w : World} {base : Nat} {v : Value} {l : List Bd} (h : FBd w0 w base v l) (h0 : Below w0.heap.size w0 w) : LBd w v l := by
  obtain ⟨rs, a, b, c⟩ := h
  exact ⟨rs, a.sees, b, fun j hj => (c j hj).at h0⟩
/-- The first k are left. -/
def MBd (w0 w : World) (base : Nat) (i : Int) (k : Nat) (v : Value) (l : List Bd) : Prop := ∃ rs : List BdV, OBdV w base v rs ∧ rs.length = l.length ∧ (∀ j, j < rs.length → j < k → BdH w0 w base (rs.getD j BdV.zero) (outBd i (l.getD j Bd.zero))) ∧ (∀ j, j < rs.length → k ≤ j → BdAt w0 (rs.getD j BdV.zero) (l.getD j Bd.zero))
theorem MBd.start {w0 w : World} {base : Nat} {v : Value} {l : List Bd} {rs : List BdV} (i : Int) (h : OBdV w base v rs) (hl : rs.length = l.length) (ha : ∀ j, j < rs.length → BdAt w0 (rs.getD j BdV.zero) (l.getD j Bd.zero)) : MBd w0 w base i 0 v l :=
  ⟨rs, h, hl, fun j _ hj => absurd hj (Nat.not_lt_zero _), fun j hj _ => ha j hj⟩
theorem MBd.below {w0 w w' : World} {base k : Nat} {i : Int} {v : Value} {l : List Bd} (h : MBd w0 w base i k v l) (hb : Below w.heap.size w w') : MBd w0 w' base i k v l := by
  obtain ⟨rs, a, b, c, d⟩ := h
  exact ⟨rs, a.below hb, b, fun j hj hk => (c j hj hk).below hb, d⟩
theorem MBd.turn {w0 w w' : World} {base k : Nat} {i : Int} {v : Value} {l : List Bd} (h : MBd w0 w base i k v l) {S : TypeId → Prop} (hs : ¬ S 67) (hw : ¬ S 104) (ht : Turns S w w') : MBd w0 w' base i k v l := by
  obtain ⟨rs, a, b, c, d⟩ := h
  exact ⟨rs, a.turn hs ht, b, fun j hj hk => (c j hj hk).turn hw ht, d⟩
theorem MBd.done {w0 w : World} {base : Nat} {i : Int} {v : Value} {l : List Bd} (h : MBd w0 w base i l.length v l) : FBd w0 w base v (l.map (outBd i)) := by
  obtain ⟨rs, a, b, c, d⟩ := h
  refine ⟨rs, a, by rw [b, List.length_map], fun j hj => ?_⟩
  have h1 := c j hj (by omega)
  have hj' : j < l.length := by omega
  have e : (l.map (outBd i)).getD j Bd.zero = outBd i (l.getD j Bd.zero) := by simp [List.getD, hj']
  rw [e]
  exact h1
theorem MBd.free {w0 w : World} {base k g n cap : Nat} {i : Int} {l : List Bd} (h : MBd w0 w base i k (.slice (some ⟨g, 0, none⟩) n cap) l) (hn : n = l.length) (j : Nat) : w.frozen? ⟨g, j, none⟩ = false := by
  obtain ⟨rs, a, b, _⟩ := h
  subst hn
  rw [← b] at a
  exact World.ownsRow.frozenAt a j
theorem MBd.get {w0 w : World} {base k g n cap : Nat} {i : Int} {l : List Bd} (h : MBd w0 w base i k (.slice (some ⟨g, 0, none⟩) n cap) l) (hn : n = l.length) (hk : k < l.length) : ∃ s : Sl, w.cell? ⟨g, k * 3 + 2, none⟩ = some (.slice s.a s.n s.c) ∧ SeesWt w0 (.slice s.a s.n s.c) (l.getD k Bd.zero).l := by
  obtain ⟨rs, a, b, _, d⟩ := h
  subst hn
  rw [← b] at a
  refine ⟨(rs.getD k BdV.zero).l, ?_, (d k (by omega) (Nat.le_refl _)).l⟩
  rw [World.ownsRow.cellAt a (k * 3 + 2) (by omega), flat_get 3 _ (lensBdV rs) k 2 (by simp; omega) (by decide), cells_getDBdV rs k (by omega)]
  rfl
theorem MBd.turns {w0 w : World} {base k g n cap j : Nat} {i : Int} {l : List Bd} (h : MBd w0 w base i k (.slice (some ⟨g, 0, none⟩) n cap) l) (hn : n = l.length) (u : Value) : Turns (fun t => t = 67) w (w.setCell ⟨g, j, none⟩ u) := by
  obtain ⟨rs, a, b, _⟩ := h
  subst hn
  rw [← b] at a
  exact Turns.boxed (S := fun t => t = 67) a rfl u
theorem MBd.put {w0 w : World} {base k g n cap : Nat} {i : Int} {l : List Bd} (h : MBd w0 w base i k (.slice (some ⟨g, 0, none⟩) n cap) l) (hn : n = l.length) (hk : k < l.length) (s : Sl) (ho : OWt w base (.slice s.a s.n s.c) ((l.getD k Bd.zero).l.filter fun x => !isW i x)) :
    MBd w0 (w.setCell ⟨g, k * 3 + 2, none⟩ (.slice s.a s.n s.c)) base i (k + 1) (.slice (some ⟨g, 0, none⟩) n cap) l := by
  have ht := h.turns (j := k * 3 + 2) hn (.slice s.a s.n s.c)
  obtain ⟨rs, a, b, c, d⟩ := h
  subst hn
  rw [← b] at a
  have hkr : k < rs.length := by omega
  have h1 := (World.ownsRow.stored a (k * 3 + 2) (.slice s.a s.n s.c)).1
  rw [flat_set 3 _ (lensBdV rs) k 2 _ (by simpa using hkr) (by decide), cells_getDBdV rs k hkr, show ((rs.getD k BdV.zero).cells.set 2 (.slice s.a s.n s.c)) = BdV.cells { rs.getD k BdV.zero with l := s } from rfl, ← List.map_set] at h1
  rw [← b]
  refine ⟨rs.set k { rs.getD k BdV.zero with l := s }, by unfold OBdV; rw [List.length_set]; exact h1, by rw [List.length_set]; exact b, fun j hj hj1 => ?_, fun j hj hj1 => ?_⟩
  · rw [List.length_set] at hj
    by_cases e : j = k
    · subst e
      have hd := d j hkr (Nat.le_refl _)
      have e1 : (rs.set j { rs.getD j BdV.zero with l := s }).getD j BdV.zero = { rs.getD j BdV.zero with l := s } := by simp [List.getD, hkr]
      rw [e1]
      exact ⟨hd.is, hd.v, OWt.turn (S := fun t => t = 67) ho (by decide) ht⟩
    · have e1 : (rs.set k { rs.getD k BdV.zero with l := s }).getD j BdV.zero = rs.getD j BdV.zero := by simp [List.getD, List.getElem?_set_ne (Ne.symm e)]
      rw [e1]
      exact (c j hj (by omega)).turn (S := fun t => t = 67) (by decide) ht
  · rw [List.length_set] at hj
    have e1 : (rs.set k { rs.getD k BdV.zero with l := s }).getD j BdV.zero = rs.getD j BdV.zero := by simp [List.getD, List.getElem?_set_ne (show k ≠ j by omega)]
    rw [e1]
    exact d j hj (by omega)

/-- What is left of one of these when a process has left it. -/
def outBf (i : Int) (b : Bf) : Bf := { b with l := b.l.filter fun x => !isW i x }
/-- One of these: its list is the call's own, the rest is as it was in w0. -/
structure BfH (w0 w : World) (base : Nat) (q : BfV) (x : Bf) : Prop where
  d : q.d = x.d
  k : q.k = x.k
  vs : Sees w0 .i64 q.vs.val x.vs
  l : OWt w base q.l.val x.l
theorem BfH.below {w0 w w' : World} {base : Nat} {q : BfV} {x : Bf} (h : BfH w0 w base q x) (hb : Below w.heap.size w w') : BfH w0 w' base q x := ⟨h.d, h.k, h.vs, h.l.below hb⟩
theorem BfH.turn {w0 w w' : World} {base : Nat} {q : BfV} {x : Bf} (h : BfH w0 w base q x) {S : TypeId → Prop} (hw : ¬ S 104) (ht : Turns S w w') : BfH w0 w' base q x := ⟨h.d, h.k, h.vs, h.l.turn hw ht⟩
theorem BfH.at {w0 w : World} {base : Nat} {q : BfV} {x : Bf} (h : BfH w0 w base q x) (h0 : Below w0.heap.size w0 w) : BfAt w q x := ⟨h.d, h.k, h.vs.below h0, h.l.sees⟩
def FBf (w0 w : World) (base : Nat) (v : Value) (l : List Bf) : Prop := ∃ rs : List BfV, OBfV w base v rs ∧ rs.length = l.length ∧ ∀ j, j < rs.length → BfH w0 w base (rs.getD j BfV.zero) (l.getD j Bf.zero)
theorem FBf.below {w0 w w' : World} {base : Nat} {v : Value} {l : List Bf} (h : FBf w0 w base v l) (hb : Below w.heap.size w w') : FBf w0 w' base v l := by
  obtain ⟨rs, a, b, c⟩ := h
  exact ⟨rs, a.below hb, b, fun j hj => (c j hj).below hb⟩
theorem FBf.turn {w0 w w' : World} {base : Nat} {v : Value} {l : List Bf} (h : FBf w0 w base v l) {S : TypeId → Prop} (hs : ¬ S 69) (hw : ¬ S 104) (ht : Turns S w w') : FBf w0 w' base v l := by
  obtain ⟨rs, a, b, c⟩ := h
  exact ⟨rs, a.turn hs ht, b, fun j hj => (c j hj).turn hw ht⟩
theorem FBf.at {w0 w : World} {base : Nat} {v : Value} {l : List Bf} (h : FBf w0 w base v l) (h0 : Below w0.heap.size w0 w) : LBf w v l := by
  obtain ⟨rs, a, b, c⟩ := h
  exact ⟨rs, a.sees, b, fun j hj => (c j hj).at h0⟩
/-- The first k are left. -/
def MBf (w0 w : World) (base : Nat) (i : Int) (k : Nat) (v : Value) (l : List Bf) : Prop := ∃ rs : List BfV, OBfV w base v rs ∧ rs.length = l.length ∧ (∀ j, j < rs.length → j < k → BfH w0 w base (rs.getD j BfV.zero) (outBf i (l.getD j Bf.zero))) ∧ (∀ j, j < rs.length → k ≤ j → BfAt w0 (rs.getD j BfV.zero) (l.getD j Bf.zero))
theorem MBf.start {w0 w : World} {base : Nat} {v : Value} {l : List Bf} {rs : List BfV} (i : Int) (h : OBfV w base v rs) (hl : rs.length = l.length) (ha : ∀ j, j < rs.length → BfAt w0 (rs.getD j BfV.zero) (l.getD j Bf.zero)) : MBf w0 w base i 0 v l :=
  ⟨rs, h, hl, fun j _ hj => absurd hj (Nat.not_lt_zero _), fun j hj _ => ha j hj⟩
theorem MBf.below {w0 w w' : World} {base k : Nat} {i : Int} {v : Value} {l : List Bf} (h : MBf w0 w base i k v l) (hb : Below w.heap.size w w') : MBf w0 w' base i k v l := by
  obtain ⟨rs, a, b, c, d⟩ := h
  exact ⟨rs, a.below hb, b, fun j hj hk => (c j hj hk).below hb, d⟩
theorem MBf.turn {w0 w w' : World} {base k : Nat} {i : Int} {v : Value} {l : List Bf} (h : MBf w0 w base i k v l) {S : TypeId → Prop} (hs : ¬ S 69) (hw : ¬ S 104) (ht : Turns S w w') : MBf w0 w' base i k v l := by
  obtain ⟨rs, a, b, c, d⟩ := h
  exact ⟨rs, a.turn hs ht, b, fun j hj hk => (c j hj hk).turn hw ht, d⟩
theorem MBf.done {w0 w : World} {base : Nat} {i : Int} {v : Value} {l : List Bf} (h : MBf w0 w base i l.length v l) : FBf w0 w base v (l.map (outBf i)) := by
  obtain ⟨rs, a, b, c, d⟩ := h
  refine ⟨rs, a, by rw [b, List.length_map], fun j hj => ?_⟩
  have h1 := c j hj (by omega)
  have hj' : j < l.length := by omega
  have e : (l.map (outBf i)).getD j Bf.zero = outBf i (l.getD j Bf.zero) := by simp [List.getD, hj']
  rw [e]
  exact h1
theorem MBf.free {w0 w : World} {base k g n cap : Nat} {i : Int} {l : List Bf} (h : MBf w0 w base i k (.slice (some ⟨g, 0, none⟩) n cap) l) (hn : n = l.length) (j : Nat) : w.frozen? ⟨g, j, none⟩ = false := by
  obtain ⟨rs, a, b, _⟩ := h
  subst hn
  rw [← b] at a
  exact World.ownsRow.frozenAt a j
theorem MBf.get {w0 w : World} {base k g n cap : Nat} {i : Int} {l : List Bf} (h : MBf w0 w base i k (.slice (some ⟨g, 0, none⟩) n cap) l) (hn : n = l.length) (hk : k < l.length) : ∃ s : Sl, w.cell? ⟨g, k * 4 + 3, none⟩ = some (.slice s.a s.n s.c) ∧ SeesWt w0 (.slice s.a s.n s.c) (l.getD k Bf.zero).l := by
  obtain ⟨rs, a, b, _, d⟩ := h
  subst hn
  rw [← b] at a
  refine ⟨(rs.getD k BfV.zero).l, ?_, (d k (by omega) (Nat.le_refl _)).l⟩
  rw [World.ownsRow.cellAt a (k * 4 + 3) (by omega), flat_get 4 _ (lensBfV rs) k 3 (by simp; omega) (by decide), cells_getDBfV rs k (by omega)]
  rfl
theorem MBf.turns {w0 w : World} {base k g n cap j : Nat} {i : Int} {l : List Bf} (h : MBf w0 w base i k (.slice (some ⟨g, 0, none⟩) n cap) l) (hn : n = l.length) (u : Value) : Turns (fun t => t = 69) w (w.setCell ⟨g, j, none⟩ u) := by
  obtain ⟨rs, a, b, _⟩ := h
  subst hn
  rw [← b] at a
  exact Turns.boxed (S := fun t => t = 69) a rfl u
theorem MBf.put {w0 w : World} {base k g n cap : Nat} {i : Int} {l : List Bf} (h : MBf w0 w base i k (.slice (some ⟨g, 0, none⟩) n cap) l) (hn : n = l.length) (hk : k < l.length) (s : Sl) (ho : OWt w base (.slice s.a s.n s.c) ((l.getD k Bf.zero).l.filter fun x => !isW i x)) :
    MBf w0 (w.setCell ⟨g, k * 4 + 3, none⟩ (.slice s.a s.n s.c)) base i (k + 1) (.slice (some ⟨g, 0, none⟩) n cap) l := by
  have ht := h.turns (j := k * 4 + 3) hn (.slice s.a s.n s.c)
  obtain ⟨rs, a, b, c, d⟩ := h
  subst hn
  rw [← b] at a
  have hkr : k < rs.length := by omega
  have h1 := (World.ownsRow.stored a (k * 4 + 3) (.slice s.a s.n s.c)).1
  rw [flat_set 4 _ (lensBfV rs) k 3 _ (by simpa using hkr) (by decide), cells_getDBfV rs k hkr, show ((rs.getD k BfV.zero).cells.set 3 (.slice s.a s.n s.c)) = BfV.cells { rs.getD k BfV.zero with l := s } from rfl, ← List.map_set] at h1
  rw [← b]
  refine ⟨rs.set k { rs.getD k BfV.zero with l := s }, by unfold OBfV; rw [List.length_set]; exact h1, by rw [List.length_set]; exact b, fun j hj hj1 => ?_, fun j hj hj1 => ?_⟩
  · rw [List.length_set] at hj
    by_cases e : j = k
    · subst e
      have hd := d j hkr (Nat.le_refl _)
      have e1 : (rs.set j { rs.getD j BfV.zero with l := s }).getD j BfV.zero = { rs.getD j BfV.zero with l := s } := by simp [List.getD, hkr]
      rw [e1]
      exact ⟨hd.d, hd.k, hd.vs, OWt.turn (S := fun t => t = 69) ho (by decide) ht⟩
    · have e1 : (rs.set k { rs.getD k BfV.zero with l := s }).getD j BfV.zero = rs.getD j BfV.zero := by simp [List.getD, List.getElem?_set_ne (Ne.symm e)]
      rw [e1]
      exact (c j hj (by omega)).turn (S := fun t => t = 69) (by decide) ht
  · rw [List.length_set] at hj
    have e1 : (rs.set k { rs.getD k BfV.zero with l := s }).getD j BfV.zero = rs.getD j BfV.zero := by simp [List.getD, List.getElem?_set_ne (show k ≠ j by omega)]
    rw [e1]
    exact d j hj (by omega)

/-- What is left of one of these when a process has left it. -/
def outSe (i : Int) (b : Se) : Se := { b with l := b.l.filter fun x => !isW i x }
/-- One of these: its list is the call's own, the rest is as it was in w0. -/
structure SeH (w0 w : World) (base : Nat) (q : SeV) (x : Se) : Prop where
  c : q.c = x.c
  m : q.m = x.m
  k : q.k = x.k
  l : OWt w base q.l.val x.l
theorem SeH.below {w0 w w' : World} {base : Nat} {q : SeV} {x : Se} (h : SeH w0 w base q x) (hb : Below w.heap.size w w') : SeH w0 w' base q x := ⟨h.c, h.m, h.k, h.l.below hb⟩
theorem SeH.turn {w0 w w' : World} {base : Nat} {q : SeV} {x : Se} (h : SeH w0 w base q x) {S : TypeId → Prop} (hw : ¬ S 104) (ht : Turns S w w') : SeH w0 w' base q x := ⟨h.c, h.m, h.k, h.l.turn hw ht⟩
theorem SeH.at {w0 w : World} {base : Nat} {q : SeV} {x : Se} (h : SeH w0 w base q x) (h0 : Below w0.heap.size w0 w) : SeAt w q x := ⟨h.c, h.m, h.k, h.l.sees⟩
def FSe (w0 w : World) (base : Nat) (v : Value) (l : List Se) : Prop := ∃ rs : List SeV, OSeV w base v rs ∧ rs.length = l.length ∧ ∀ j, j < rs.length → SeH w0 w base (rs.getD j SeV.zero) (l.getD j Se.zero)
theorem FSe.below {w0 w w' : World} {base : Nat} {v : Value} {l : List Se} (h : FSe w0 w base v l) (hb : Below w.heap.size w w') : FSe w0 w' base v l := by
  obtain ⟨rs, a, b, c⟩ := h
  exact ⟨rs, a.below hb, b, fun j hj => (c j hj).below hb⟩
theorem FSe.turn {w0 w w' : World} {base : Nat} {v : Value} {l : List Se} (h : FSe w0 w base v l) {S : TypeId → Prop} (hs : ¬ S 71) (hw : ¬ S 104) (ht : Turns S w w') : FSe w0 w' base v l := by
  obtain ⟨rs, a, b, c⟩ := h
  exact ⟨rs, a.turn hs ht, b, fun j hj => (c j hj).turn hw ht⟩
theorem FSe.at {w0 w : World} {base : Nat} {v : Value} {l : List Se} (h : FSe w0 w base v l) (h0 : Below w0.heap.size w0 w) : LSe w v l := by
  obtain ⟨rs, a, b, c⟩ := h
  exact ⟨rs, a.sees, b, fun j hj => (c j hj).at h0⟩
/-- The first k are left. -/
def MSe (w0 w : World) (base : Nat) (i : Int) (k : Nat) (v : Value) (l : List Se) : Prop := ∃ rs : List SeV, OSeV w base v rs ∧ rs.length = l.length ∧ (∀ j, j < rs.length → j < k → SeH w0 w base (rs.getD j SeV.zero) (outSe i (l.getD j Se.zero))) ∧ (∀ j, j < rs.length → k ≤ j → SeAt w0 (rs.getD j SeV.zero) (l.getD j Se.zero))
theorem MSe.start {w0 w : World} {base : Nat} {v : Value} {l : List Se} {rs : List SeV} (i : Int) (h : OSeV w base v rs) (hl : rs.length = l.length) (ha : ∀ j, j < rs.length → SeAt w0 (rs.getD j SeV.zero) (l.getD j Se.zero)) : MSe w0 w base i 0 v l :=
  ⟨rs, h, hl, fun j _ hj => absurd hj (Nat.not_lt_zero _), fun j hj _ => ha j hj⟩
theorem MSe.below {w0 w w' : World} {base k : Nat} {i : Int} {v : Value} {l : List Se} (h : MSe w0 w base i k v l) (hb : Below w.heap.size w w') : MSe w0 w' base i k v l := by
  obtain ⟨rs, a, b, c, d⟩ := h
  exact ⟨rs, a.below hb, b, fun j hj hk => (c j hj hk).below hb, d⟩
theorem MSe.turn {w0 w w' : World} {base k : Nat} {i : Int} {v : Value} {l : List Se} (h : MSe w0 w base i k v l) {S : TypeId → Prop} (hs : ¬ S 71) (hw : ¬ S 104) (ht : Turns S w w') : MSe w0 w' base i k v l := by
  obtain ⟨rs, a, b, c, d⟩ := h
  exact ⟨rs, a.turn hs ht, b, fun j hj hk => (c j hj hk).turn hw ht, d⟩
theorem MSe.done {w0 w : World} {base : Nat} {i : Int} {v : Value} {l : List Se} (h : MSe w0 w base i l.length v l) : FSe w0 w base v (l.map (outSe i)) := by
  obtain ⟨rs, a, b, c, d⟩ := h
  refine ⟨rs, a, by rw [b, List.length_map], fun j hj => ?_⟩
  have h1 := c j hj (by omega)
  have hj' : j < l.length := by omega
  have e : (l.map (outSe i)).getD j Se.zero = outSe i (l.getD j Se.zero) := by simp [List.getD, hj']
  rw [e]
  exact h1
theorem MSe.free {w0 w : World} {base k g n cap : Nat} {i : Int} {l : List Se} (h : MSe w0 w base i k (.slice (some ⟨g, 0, none⟩) n cap) l) (hn : n = l.length) (j : Nat) : w.frozen? ⟨g, j, none⟩ = false := by
  obtain ⟨rs, a, b, _⟩ := h
  subst hn
  rw [← b] at a
  exact World.ownsRow.frozenAt a j
theorem MSe.get {w0 w : World} {base k g n cap : Nat} {i : Int} {l : List Se} (h : MSe w0 w base i k (.slice (some ⟨g, 0, none⟩) n cap) l) (hn : n = l.length) (hk : k < l.length) : ∃ s : Sl, w.cell? ⟨g, k * 4 + 3, none⟩ = some (.slice s.a s.n s.c) ∧ SeesWt w0 (.slice s.a s.n s.c) (l.getD k Se.zero).l := by
  obtain ⟨rs, a, b, _, d⟩ := h
  subst hn
  rw [← b] at a
  refine ⟨(rs.getD k SeV.zero).l, ?_, (d k (by omega) (Nat.le_refl _)).l⟩
  rw [World.ownsRow.cellAt a (k * 4 + 3) (by omega), flat_get 4 _ (lensSeV rs) k 3 (by simp; omega) (by decide), cells_getDSeV rs k (by omega)]
  rfl
theorem MSe.turns {w0 w : World} {base k g n cap j : Nat} {i : Int} {l : List Se} (h : MSe w0 w base i k (.slice (some ⟨g, 0, none⟩) n cap) l) (hn : n = l.length) (u : Value) : Turns (fun t => t = 71) w (w.setCell ⟨g, j, none⟩ u) := by
  obtain ⟨rs, a, b, _⟩ := h
  subst hn
  rw [← b] at a
  exact Turns.boxed (S := fun t => t = 71) a rfl u
theorem MSe.put {w0 w : World} {base k g n cap : Nat} {i : Int} {l : List Se} (h : MSe w0 w base i k (.slice (some ⟨g, 0, none⟩) n cap) l) (hn : n = l.length) (hk : k < l.length) (s : Sl) (ho : OWt w base (.slice s.a s.n s.c) ((l.getD k Se.zero).l.filter fun x => !isW i x)) :
    MSe w0 (w.setCell ⟨g, k * 4 + 3, none⟩ (.slice s.a s.n s.c)) base i (k + 1) (.slice (some ⟨g, 0, none⟩) n cap) l := by
  have ht := h.turns (j := k * 4 + 3) hn (.slice s.a s.n s.c)
  obtain ⟨rs, a, b, c, d⟩ := h
  subst hn
  rw [← b] at a
  have hkr : k < rs.length := by omega
  have h1 := (World.ownsRow.stored a (k * 4 + 3) (.slice s.a s.n s.c)).1
  rw [flat_set 4 _ (lensSeV rs) k 3 _ (by simpa using hkr) (by decide), cells_getDSeV rs k hkr, show ((rs.getD k SeV.zero).cells.set 3 (.slice s.a s.n s.c)) = SeV.cells { rs.getD k SeV.zero with l := s } from rfl, ← List.map_set] at h1
  rw [← b]
  refine ⟨rs.set k { rs.getD k SeV.zero with l := s }, by unfold OSeV; rw [List.length_set]; exact h1, by rw [List.length_set]; exact b, fun j hj hj1 => ?_, fun j hj hj1 => ?_⟩
  · rw [List.length_set] at hj
    by_cases e : j = k
    · subst e
      have hd := d j hkr (Nat.le_refl _)
      have e1 : (rs.set j { rs.getD j SeV.zero with l := s }).getD j SeV.zero = { rs.getD j SeV.zero with l := s } := by simp [List.getD, hkr]
      rw [e1]
      exact ⟨hd.c, hd.m, hd.k, OWt.turn (S := fun t => t = 71) ho (by decide) ht⟩
    · have e1 : (rs.set k { rs.getD k SeV.zero with l := s }).getD j SeV.zero = rs.getD j SeV.zero := by simp [List.getD, List.getElem?_set_ne (Ne.symm e)]
      rw [e1]
      exact (c j hj (by omega)).turn (S := fun t => t = 71) (by decide) ht
  · rw [List.length_set] at hj
    have e1 : (rs.set k { rs.getD k SeV.zero with l := s }).getD j SeV.zero = rs.getD j SeV.zero := by simp [List.getD, List.getElem?_set_ne (show k ≠ j by omega)]
    rw [e1]
    exact d j hj (by omega)

/-- What is left of one of these when a process has left it. -/
def outEv (i : Int) (b : Ev) : Ev := { b with l := b.l.filter fun x => !isW i x }
/-- One of these: its list is the call's own, the rest is as it was in w0. -/
structure EvH (w0 w : World) (base : Nat) (q : EvV) (x : Ev) : Prop where
  u : q.u = x.u
  l : OWt w base q.l.val x.l
theorem EvH.below {w0 w w' : World} {base : Nat} {q : EvV} {x : Ev} (h : EvH w0 w base q x) (hb : Below w.heap.size w w') : EvH w0 w' base q x := ⟨h.u, h.l.below hb⟩
theorem EvH.turn {w0 w w' : World} {base : Nat} {q : EvV} {x : Ev} (h : EvH w0 w base q x) {S : TypeId → Prop} (hw : ¬ S 104) (ht : Turns S w w') : EvH w0 w' base q x := ⟨h.u, h.l.turn hw ht⟩
theorem EvH.at {w0 w : World} {base : Nat} {q : EvV} {x : Ev} (h : EvH w0 w base q x) (h0 : Below w0.heap.size w0 w) : EvAt w q x := ⟨h.u, h.l.sees⟩
def FEv (w0 w : World) (base : Nat) (v : Value) (l : List Ev) : Prop := ∃ rs : List EvV, OEvV w base v rs ∧ rs.length = l.length ∧ ∀ j, j < rs.length → EvH w0 w base (rs.getD j EvV.zero) (l.getD j Ev.zero)
theorem FEv.below {w0 w w' : World} {base : Nat} {v : Value} {l : List Ev} (h : FEv w0 w base v l) (hb : Below w.heap.size w w') : FEv w0 w' base v l := by
  obtain ⟨rs, a, b, c⟩ := h
  exact ⟨rs, a.below hb, b, fun j hj => (c j hj).below hb⟩
theorem FEv.turn {w0 w w' : World} {base : Nat} {v : Value} {l : List Ev} (h : FEv w0 w base v l) {S : TypeId → Prop} (hs : ¬ S 73) (hw : ¬ S 104) (ht : Turns S w w') : FEv w0 w' base v l := by
  obtain ⟨rs, a, b, c⟩ := h
  exact ⟨rs, a.turn hs ht, b, fun j hj => (c j hj).turn hw ht⟩
theorem FEv.at {w0 w : World} {base : Nat} {v : Value} {l : List Ev} (h : FEv w0 w base v l) (h0 : Below w0.heap.size w0 w) : LEv w v l := by
  obtain ⟨rs, a, b, c⟩ := h
  exact ⟨rs, a.sees, b, fun j hj => (c j hj).at h0⟩
/-- The first k are left. -/
def MEv (w0 w : World) (base : Nat) (i : Int) (k : Nat) (v : Value) (l : List Ev) : Prop := ∃ rs : List EvV, OEvV w base v rs ∧ rs.length = l.length ∧ (∀ j, j < rs.length → j < k → EvH w0 w base (rs.getD j EvV.zero) (outEv i (l.getD j Ev.zero))) ∧ (∀ j, j < rs.length → k ≤ j → EvAt w0 (rs.getD j EvV.zero) (l.getD j Ev.zero))
theorem MEv.start {w0 w : World} {base : Nat} {v : Value} {l : List Ev} {rs : List EvV} (i : Int) (h : OEvV w base v rs) (hl : rs.length = l.length) (ha : ∀ j, j < rs.length → EvAt w0 (rs.getD j EvV.zero) (l.getD j Ev.zero)) : MEv w0 w base i 0 v l :=
  ⟨rs, h, hl, fun j _ hj => absurd hj (Nat.not_lt_zero _), fun j hj _ => ha j hj⟩
theorem MEv.below {w0 w w' : World} {base k : Nat} {i : Int} {v : Value} {l : List Ev} (h : MEv w0 w base i k v l) (hb : Below w.heap.size w w') : MEv w0 w' base i k v l := by
  obtain ⟨rs, a, b, c, d⟩ := h
  exact ⟨rs, a.below hb, b, fun j hj hk => (c j hj hk).below hb, d⟩
theorem MEv.turn {w0 w w' : World} {base k : Nat} {i : Int} {v : Value} {l : List Ev} (h : MEv w0 w base i k v l) {S : TypeId → Prop} (hs : ¬ S 73) (hw : ¬ S 104) (ht : Turns S w w') : MEv w0 w' base i k v l := by
  obtain ⟨rs, a, b, c, d⟩ := h
  exact ⟨rs, a.turn hs ht, b, fun j hj hk => (c j hj hk).turn hw ht, d⟩
theorem MEv.done {w0 w : World} {base : Nat} {i : Int} {v : Value} {l : List Ev} (h : MEv w0 w base i l.length v l) : FEv w0 w base v (l.map (outEv i)) := by
  obtain ⟨rs, a, b, c, d⟩ := h
  refine ⟨rs, a, by rw [b, List.length_map], fun j hj => ?_⟩
  have h1 := c j hj (by omega)
  have hj' : j < l.length := by omega
  have e : (l.map (outEv i)).getD j Ev.zero = outEv i (l.getD j Ev.zero) := by simp [List.getD, hj']
  rw [e]
  exact h1
theorem MEv.free {w0 w : World} {base k g n cap : Nat} {i : Int} {l : List Ev} (h : MEv w0 w base i k (.slice (some ⟨g, 0, none⟩) n cap) l) (hn : n = l.length) (j : Nat) : w.frozen? ⟨g, j, none⟩ = false := by
  obtain ⟨rs, a, b, _⟩ := h
  subst hn
  rw [← b] at a
  exact World.ownsRow.frozenAt a j
theorem MEv.get {w0 w : World} {base k g n cap : Nat} {i : Int} {l : List Ev} (h : MEv w0 w base i k (.slice (some ⟨g, 0, none⟩) n cap) l) (hn : n = l.length) (hk : k < l.length) : ∃ s : Sl, w.cell? ⟨g, k * 2 + 1, none⟩ = some (.slice s.a s.n s.c) ∧ SeesWt w0 (.slice s.a s.n s.c) (l.getD k Ev.zero).l := by
  obtain ⟨rs, a, b, _, d⟩ := h
  subst hn
  rw [← b] at a
  refine ⟨(rs.getD k EvV.zero).l, ?_, (d k (by omega) (Nat.le_refl _)).l⟩
  rw [World.ownsRow.cellAt a (k * 2 + 1) (by omega), flat_get 2 _ (lensEvV rs) k 1 (by simp; omega) (by decide), cells_getDEvV rs k (by omega)]
  rfl
theorem MEv.turns {w0 w : World} {base k g n cap j : Nat} {i : Int} {l : List Ev} (h : MEv w0 w base i k (.slice (some ⟨g, 0, none⟩) n cap) l) (hn : n = l.length) (u : Value) : Turns (fun t => t = 73) w (w.setCell ⟨g, j, none⟩ u) := by
  obtain ⟨rs, a, b, _⟩ := h
  subst hn
  rw [← b] at a
  exact Turns.boxed (S := fun t => t = 73) a rfl u
theorem MEv.put {w0 w : World} {base k g n cap : Nat} {i : Int} {l : List Ev} (h : MEv w0 w base i k (.slice (some ⟨g, 0, none⟩) n cap) l) (hn : n = l.length) (hk : k < l.length) (s : Sl) (ho : OWt w base (.slice s.a s.n s.c) ((l.getD k Ev.zero).l.filter fun x => !isW i x)) :
    MEv w0 (w.setCell ⟨g, k * 2 + 1, none⟩ (.slice s.a s.n s.c)) base i (k + 1) (.slice (some ⟨g, 0, none⟩) n cap) l := by
  have ht := h.turns (j := k * 2 + 1) hn (.slice s.a s.n s.c)
  obtain ⟨rs, a, b, c, d⟩ := h
  subst hn
  rw [← b] at a
  have hkr : k < rs.length := by omega
  have h1 := (World.ownsRow.stored a (k * 2 + 1) (.slice s.a s.n s.c)).1
  rw [flat_set 2 _ (lensEvV rs) k 1 _ (by simpa using hkr) (by decide), cells_getDEvV rs k hkr, show ((rs.getD k EvV.zero).cells.set 1 (.slice s.a s.n s.c)) = EvV.cells { rs.getD k EvV.zero with l := s } from rfl, ← List.map_set] at h1
  rw [← b]
  refine ⟨rs.set k { rs.getD k EvV.zero with l := s }, by unfold OEvV; rw [List.length_set]; exact h1, by rw [List.length_set]; exact b, fun j hj hj1 => ?_, fun j hj hj1 => ?_⟩
  · rw [List.length_set] at hj
    by_cases e : j = k
    · subst e
      have hd := d j hkr (Nat.le_refl _)
      have e1 : (rs.set j { rs.getD j EvV.zero with l := s }).getD j EvV.zero = { rs.getD j EvV.zero with l := s } := by simp [List.getD, hkr]
      rw [e1]
      exact ⟨hd.u, OWt.turn (S := fun t => t = 73) ho (by decide) ht⟩
    · have e1 : (rs.set k { rs.getD k EvV.zero with l := s }).getD j EvV.zero = rs.getD j EvV.zero := by simp [List.getD, List.getElem?_set_ne (Ne.symm e)]
      rw [e1]
      exact (c j hj (by omega)).turn (S := fun t => t = 73) (by decide) ht
  · rw [List.length_set] at hj
    have e1 : (rs.set k { rs.getD k EvV.zero with l := s }).getD j EvV.zero = rs.getD j EvV.zero := by simp [List.getD, List.getElem?_set_ne (show k ≠ j by omega)]
    rw [e1]
    exact d j hj (by omega)

end Go.Proofs.Ytdanfnbclbiidaa
