/-
  A partition that is the call's own, with all its lists; what turns in blocks of some types leaves the others.
-/
import Derived.Test.YtdanfnbclbiidaaQReg
import Derived.Test.YtdanfnbclbiidaaPOwn
import Derived.Test.YtdanfnbclbiidaaTOwnI
namespace Go.Proofs.Ytdanfnbclbiidaa
open Go.RowKit
set_option linter.unusedVariables false

/-- The type of a block's cells. -/
def tagAt (w : World) (k : Nat) (t : TypeId) : Prop := ∃ cs fr, w.heap[k]? = some (.cells cs t fr)

/-- From w to w' no block has turned but such as have cells of a type of S. -/
structure Turns (S : TypeId → Prop) (w w' : World) : Prop where
  os : w'.os = w.os
  tape : w'.tape = w.tape
  output : w'.output = w.output
  size : w.heap.size ≤ w'.heap.size
  block : ∀ k, k < w.heap.size → (∀ t, tagAt w k t → ¬ S t) → w'.heap[k]? = w.heap[k]?
  tag : ∀ k t, k < w.heap.size → tagAt w' k t → tagAt w k t
theorem Turns.refl (S : TypeId → Prop) (w : World) : Turns S w w := ⟨rfl, rfl, rfl, Nat.le_refl _, fun _ _ _ => rfl, fun _ _ _ h => h⟩
theorem Turns.trans {S : TypeId → Prop} {a b c : World} (h : Turns S a b) (k : Turns S b c) : Turns S a c :=
  ⟨k.os.trans h.os, k.tape.trans h.tape, k.output.trans h.output, Nat.le_trans h.size k.size,
    fun i hi ht => (k.block i (Nat.lt_of_lt_of_le hi h.size) (fun t hta => ht t (h.tag i t hi hta))).trans (h.block i hi ht),
    fun i t hi ht => h.tag i t hi (k.tag i t (Nat.lt_of_lt_of_le hi h.size) ht)⟩
theorem Turns.below {S : TypeId → Prop} {w w' : World} (h : Below w.heap.size w w') : Turns S w w' :=
  ⟨h.os, h.tape, h.output, h.size, fun k hk _ => h.block k hk, fun k t hk ⟨cs, fr, e⟩ => ⟨cs, fr, by rw [← h.block k hk]; exact e⟩⟩
theorem Turns.set {S : TypeId → Prop} {w : World} {g j : Nat} {t : TypeId} {cs : Array Value} (hg : BoxAt w g t cs) (hs : S t) (u : Value) : Turns S w (w.setCell ⟨g, j, none⟩ u) := by
  have hn := hg.set j u
  refine ⟨rfl, rfl, rfl, by simp, fun k hk ht => ?_, fun k t' hk ⟨cs', fr, e⟩ => ?_⟩
  · by_cases hkg : k = g
    · subst hkg; exact absurd hs (ht t ⟨cs, _, hg⟩)
    · exact heap_setCell_other w ⟨g, j, none⟩ k u hkg
  · by_cases hkg : k = g
    · subst hkg
      unfold BoxAt at hn
      rw [hn] at e
      injection e with e
      injection e with e1 e2 e3
      subst e2
      exact ⟨cs, _, hg⟩
    · rw [heap_setCell_other w ⟨g, j, none⟩ k u hkg] at e
      exact ⟨cs', fr, e⟩

theorem owns_turn {w w' : World} {base : Nat} {e : TypeId} {size : Nat} {v : Value} {n : Nat} {xs : List Value} (h : w.ownsRow base e size v n xs) {S : TypeId → Prop} (hs : ¬ S e) (ht : Turns S w w') : w'.ownsRow base e size v n xs := by
  refine ⟨h.1, ?_⟩
  rcases h.2 with h | ⟨g, cap, cur, hv, hg, hh, hrest⟩
  · exact .inl h
  · refine .inr ⟨g, cap, cur, hv, hg, ?_, hrest⟩
    have hlt : g < w.heap.size := by
      rcases Nat.lt_or_ge g w.heap.size with h' | h'
      · exact h'
      · rw [Array.getElem?_eq_none h'] at hh; cases hh
    rw [ht.block g hlt (fun t ⟨cs, fr, e'⟩ => by
      rw [hh] at e'
      injection e' with e'
      injection e' with e1 e2 e3
      subst e2
      exact hs)]
    exact hh
theorem OI.turn {w w' : World} {base : Nat} {v : Value} {l : List Int} (h : OI w base v l) {S : TypeId → Prop} (hs : ¬ S 3) (ht : Turns S w w') : OI w' base v l := owns_turn h hs ht
theorem OP.turn {w w' : World} {base : Nat} {v : Value} {l : List Px} (h : OP w base v l) {S : TypeId → Prop} (hs : ¬ S 57) (ht : Turns S w w') : OP w' base v l := owns_turn h hs ht

/-- A slice of these, the call's own, that reads, in w, as l. -/
def OWt (w : World) (base : Nat) (v : Value) (l : List Wt) : Prop := w.ownsRow base 104 3 v l.length (l.map Wt.cells).flatten
theorem OWt.nil (w : World) (base : Nat) : OWt w base (.slice none 0 0) [] := ⟨rfl, .inl ⟨rfl, rfl⟩⟩
theorem OWt.sees {w : World} {base : Nat} {v : Value} {l : List Wt} (h : OWt w base v l) : SeesWt w v l := SeesWt.owned rfl h
theorem OWt.below {w w' : World} {base : Nat} {v : Value} {l : List Wt} (h : OWt w base v l) (hb : Below w.heap.size w w') : OWt w' base v l := owns_below h hb
theorem OWt.lt {w : World} {base : Nat} {v : Value} {l : List Wt} (h : OWt w base v l) : ∀ k, v.ownBlock = some k → base ≤ k ∧ k < w.heap.size := World.ownsRow.lt h
theorem OWt.mono {w : World} {base base' : Nat} {v : Value} {l : List Wt} (h : OWt w base v l) (hb : base' ≤ base) : OWt w base' v l := World.ownsRow.mono h hb
theorem OWt.turn {w w' : World} {base : Nat} {v : Value} {l : List Wt} (h : OWt w base v l) {S : TypeId → Prop} (hs : ¬ S 104) (ht : Turns S w w') : OWt w' base v l := owns_turn h hs ht

/-- A slice of these, the call's own, that reads, in w, as l. -/
def OSp (w : World) (base : Nat) (v : Value) (l : List Sp) : Prop := w.ownsRow base 78 3 v l.length (l.map Sp.cells).flatten
theorem OSp.nil (w : World) (base : Nat) : OSp w base (.slice none 0 0) [] := ⟨rfl, .inl ⟨rfl, rfl⟩⟩
theorem OSp.sees {w : World} {base : Nat} {v : Value} {l : List Sp} (h : OSp w base v l) : SeesSp w v l := SeesSp.owned rfl h
theorem OSp.below {w w' : World} {base : Nat} {v : Value} {l : List Sp} (h : OSp w base v l) (hb : Below w.heap.size w w') : OSp w' base v l := owns_below h hb
theorem OSp.lt {w : World} {base : Nat} {v : Value} {l : List Sp} (h : OSp w base v l) : ∀ k, v.ownBlock = some k → base ≤ k ∧ k < w.heap.size := World.ownsRow.lt h
theorem OSp.mono {w : World} {base base' : Nat} {v : Value} {l : List Sp} (h : OSp w base v l) (hb : base' ≤ base) : OSp w base' v l := World.ownsRow.mono h hb
theorem OSp.turn {w w' : World} {base : Nat} {v : Value} {l : List Sp} (h : OSp w base v l) {S : TypeId → Prop} (hs : ¬ S 78) (ht : Turns S w w') : OSp w' base v l := owns_turn h hs ht

/-- A slice of these, the call's own, that reads, in w, as l. -/
def OBdV (w : World) (base : Nat) (v : Value) (l : List BdV) : Prop := w.ownsRow base 67 3 v l.length (l.map BdV.cells).flatten
theorem OBdV.nil (w : World) (base : Nat) : OBdV w base (.slice none 0 0) [] := ⟨rfl, .inl ⟨rfl, rfl⟩⟩
theorem OBdV.sees {w : World} {base : Nat} {v : Value} {l : List BdV} (h : OBdV w base v l) : SeesBdV w v l := SeesBdV.owned rfl h
theorem OBdV.below {w w' : World} {base : Nat} {v : Value} {l : List BdV} (h : OBdV w base v l) (hb : Below w.heap.size w w') : OBdV w' base v l := owns_below h hb
theorem OBdV.lt {w : World} {base : Nat} {v : Value} {l : List BdV} (h : OBdV w base v l) : ∀ k, v.ownBlock = some k → base ≤ k ∧ k < w.heap.size := World.ownsRow.lt h
theorem OBdV.mono {w : World} {base base' : Nat} {v : Value} {l : List BdV} (h : OBdV w base v l) (hb : base' ≤ base) : OBdV w base' v l := World.ownsRow.mono h hb
theorem OBdV.turn {w w' : World} {base : Nat} {v : Value} {l : List BdV} (h : OBdV w base v l) {S : TypeId → Prop} (hs : ¬ S 67) (ht : Turns S w w') : OBdV w' base v l := owns_turn h hs ht

/-- A value of the call's own that reads, in w, as x. -/
structure BdO (w : World) (base : Nat) (q : BdV) (x : Bd) : Prop where
  is : q.is = x.is
  v : q.v = x.v
  l : OWt w base q.l.val x.l
theorem BdO.sees {w : World} {base : Nat} {q : BdV} {x : Bd} (h : BdO w base q x) : BdAt w q x := ⟨h.is, h.v, h.l.sees⟩
theorem BdO.below {w w' : World} {base : Nat} {q : BdV} {x : Bd} (h : BdO w base q x) (hb : Below w.heap.size w w') : BdO w' base q x := ⟨h.is, h.v, h.l.below hb⟩
theorem BdO.mono {w : World} {base base' : Nat} {q : BdV} {x : Bd} (h : BdO w base q x) (hb : base' ≤ base) : BdO w base' q x := ⟨h.is, h.v, h.l.mono hb⟩
theorem BdO.turn {w w' : World} {base : Nat} {q : BdV} {x : Bd} (h : BdO w base q x) {S : TypeId → Prop} (hw : ¬ S 104) (ht : Turns S w w') : BdO w' base q x := ⟨h.is, h.v, h.l.turn hw ht⟩

/-- A slice of these, all the call's own. -/
def OBd (w : World) (base : Nat) (v : Value) (l : List Bd) : Prop := ∃ rs : List BdV, OBdV w base v rs ∧ rs.length = l.length ∧ ∀ i, i < rs.length → BdO w base (rs.getD i BdV.zero) (l.getD i Bd.zero)
theorem OBd.nil (w : World) (base : Nat) : OBd w base (.slice none 0 0) [] := ⟨[], OBdV.nil w base, rfl, fun i hi => absurd hi (Nat.not_lt_zero _)⟩
theorem OBd.sees {w : World} {base : Nat} {v : Value} {l : List Bd} (h : OBd w base v l) : LBd w v l := by
  obtain ⟨rs, a, b, c⟩ := h
  exact ⟨rs, a.sees, b, fun i hi => (c i hi).sees⟩
theorem OBd.below {w w' : World} {base : Nat} {v : Value} {l : List Bd} (h : OBd w base v l) (hb : Below w.heap.size w w') : OBd w' base v l := by
  obtain ⟨rs, a, b, c⟩ := h
  exact ⟨rs, a.below hb, b, fun i hi => (c i hi).below hb⟩
theorem OBd.mono {w : World} {base base' : Nat} {v : Value} {l : List Bd} (h : OBd w base v l) (hb : base' ≤ base) : OBd w base' v l := by
  obtain ⟨rs, a, b, c⟩ := h
  exact ⟨rs, a.mono hb, b, fun i hi => (c i hi).mono hb⟩
theorem OBd.turn {w w' : World} {base : Nat} {v : Value} {l : List Bd} (h : OBd w base v l) {S : TypeId → Prop} (hs : ¬ S 67) (hw : ¬ S 104) (ht : Turns S w w') : OBd w' base v l := by
  obtain ⟨rs, a, b, c⟩ := h
  exact ⟨rs, a.turn hs ht, b, fun i hi => (c i hi).turn hw ht⟩

/-- A slice of these, the call's own, that reads, in w, as l. -/
def OBfV (w : World) (base : Nat) (v : Value) (l : List BfV) : Prop := w.ownsRow base 69 4 v l.length (l.map BfV.cells).flatten
theorem OBfV.nil (w : World) (base : Nat) : OBfV w base (.slice none 0 0) [] := ⟨rfl, .inl ⟨rfl, rfl⟩⟩
theorem OBfV.sees {w : World} {base : Nat} {v : Value} {l : List BfV} (h : OBfV w base v l) : SeesBfV w v l := SeesBfV.owned rfl h
theorem OBfV.below {w w' : World} {base : Nat} {v : Value} {l : List BfV} (h : OBfV w base v l) (hb : Below w.heap.size w w') : OBfV w' base v l := owns_below h hb
theorem OBfV.lt {w : World} {base : Nat} {v : Value} {l : List BfV} (h : OBfV w base v l) : ∀ k, v.ownBlock = some k → base ≤ k ∧ k < w.heap.size := World.ownsRow.lt h
theorem OBfV.mono {w : World} {base base' : Nat} {v : Value} {l : List BfV} (h : OBfV w base v l) (hb : base' ≤ base) : OBfV w base' v l := World.ownsRow.mono h hb
theorem OBfV.turn {w w' : World} {base : Nat} {v : Value} {l : List BfV} (h : OBfV w base v l) {S : TypeId → Prop} (hs : ¬ S 69) (ht : Turns S w w') : OBfV w' base v l := owns_turn h hs ht

/-- A value of the call's own that reads, in w, as x. -/
structure BfO (w : World) (base : Nat) (q : BfV) (x : Bf) : Prop where
  d : q.d = x.d
  k : q.k = x.k
  vs : OI w base q.vs.val x.vs
  l : OWt w base q.l.val x.l
theorem BfO.sees {w : World} {base : Nat} {q : BfV} {x : Bf} (h : BfO w base q x) : BfAt w q x := ⟨h.d, h.k, h.vs.sees, h.l.sees⟩
theorem BfO.below {w w' : World} {base : Nat} {q : BfV} {x : Bf} (h : BfO w base q x) (hb : Below w.heap.size w w') : BfO w' base q x := ⟨h.d, h.k, h.vs.below hb, h.l.below hb⟩
theorem BfO.mono {w : World} {base base' : Nat} {q : BfV} {x : Bf} (h : BfO w base q x) (hb : base' ≤ base) : BfO w base' q x := ⟨h.d, h.k, h.vs.mono hb, h.l.mono hb⟩
theorem BfO.turn {w w' : World} {base : Nat} {q : BfV} {x : Bf} (h : BfO w base q x) {S : TypeId → Prop} (hn : ¬ S 3) (hw : ¬ S 104) (ht : Turns S w w') : BfO w' base q x := ⟨h.d, h.k, h.vs.turn hn ht, h.l.turn hw ht⟩

/-- A slice of these, all the call's own. -/
def OBf (w : World) (base : Nat) (v : Value) (l : List Bf) : Prop := ∃ rs : List BfV, OBfV w base v rs ∧ rs.length = l.length ∧ ∀ i, i < rs.length → BfO w base (rs.getD i BfV.zero) (l.getD i Bf.zero)
theorem OBf.nil (w : World) (base : Nat) : OBf w base (.slice none 0 0) [] := ⟨[], OBfV.nil w base, rfl, fun i hi => absurd hi (Nat.not_lt_zero _)⟩
theorem OBf.sees {w : World} {base : Nat} {v : Value} {l : List Bf} (h : OBf w base v l) : LBf w v l := by
  obtain ⟨rs, a, b, c⟩ := h
  exact ⟨rs, a.sees, b, fun i hi => (c i hi).sees⟩
theorem OBf.below {w w' : World} {base : Nat} {v : Value} {l : List Bf} (h : OBf w base v l) (hb : Below w.heap.size w w') : OBf w' base v l := by
  obtain ⟨rs, a, b, c⟩ := h
  exact ⟨rs, a.below hb, b, fun i hi => (c i hi).below hb⟩
theorem OBf.mono {w : World} {base base' : Nat} {v : Value} {l : List Bf} (h : OBf w base v l) (hb : base' ≤ base) : OBf w base' v l := by
  obtain ⟨rs, a, b, c⟩ := h
  exact ⟨rs, a.mono hb, b, fun i hi => (c i hi).mono hb⟩
theorem OBf.turn {w w' : World} {base : Nat} {v : Value} {l : List Bf} (h : OBf w base v l) {S : TypeId → Prop} (hs : ¬ S 69) (hn : ¬ S 3) (hw : ¬ S 104) (ht : Turns S w w') : OBf w' base v l := by
  obtain ⟨rs, a, b, c⟩ := h
  exact ⟨rs, a.turn hs ht, b, fun i hi => (c i hi).turn hn hw ht⟩

/-- A slice of these, the call's own, that reads, in w, as l. -/
def OSeV (w : World) (base : Nat) (v : Value) (l : List SeV) : Prop := w.ownsRow base 71 4 v l.length (l.map SeV.cells).flatten
theorem OSeV.nil (w : World) (base : Nat) : OSeV w base (.slice none 0 0) [] := ⟨rfl, .inl ⟨rfl, rfl⟩⟩
theorem OSeV.sees {w : World} {base : Nat} {v : Value} {l : List SeV} (h : OSeV w base v l) : SeesSeV w v l := SeesSeV.owned rfl h
theorem OSeV.below {w w' : World} {base : Nat} {v : Value} {l : List SeV} (h : OSeV w base v l) (hb : Below w.heap.size w w') : OSeV w' base v l := owns_below h hb
theorem OSeV.lt {w : World} {base : Nat} {v : Value} {l : List SeV} (h : OSeV w base v l) : ∀ k, v.ownBlock = some k → base ≤ k ∧ k < w.heap.size := World.ownsRow.lt h
theorem OSeV.mono {w : World} {base base' : Nat} {v : Value} {l : List SeV} (h : OSeV w base v l) (hb : base' ≤ base) : OSeV w base' v l := World.ownsRow.mono h hb
theorem OSeV.turn {w w' : World} {base : Nat} {v : Value} {l : List SeV} (h : OSeV w base v l) {S : TypeId → Prop} (hs : ¬ S 71) (ht : Turns S w w') : OSeV w' base v l := owns_turn h hs ht

/-- A value of the call's own that reads, in w, as x. -/
structure SeO (w : World) (base : Nat) (q : SeV) (x : Se) : Prop where
  c : q.c = x.c
  m : q.m = x.m
  k : q.k = x.k
  l : OWt w base q.l.val x.l
theorem SeO.sees {w : World} {base : Nat} {q : SeV} {x : Se} (h : SeO w base q x) : SeAt w q x := ⟨h.c, h.m, h.k, h.l.sees⟩
theorem SeO.below {w w' : World} {base : Nat} {q : SeV} {x : Se} (h : SeO w base q x) (hb : Below w.heap.size w w') : SeO w' base q x := ⟨h.c, h.m, h.k, h.l.below hb⟩
theorem SeO.mono {w : World} {base base' : Nat} {q : SeV} {x : Se} (h : SeO w base q x) (hb : base' ≤ base) : SeO w base' q x := ⟨h.c, h.m, h.k, h.l.mono hb⟩
theorem SeO.turn {w w' : World} {base : Nat} {q : SeV} {x : Se} (h : SeO w base q x) {S : TypeId → Prop} (hw : ¬ S 104) (ht : Turns S w w') : SeO w' base q x := ⟨h.c, h.m, h.k, h.l.turn hw ht⟩

/-- A slice of these, all the call's own. -/
def OSe (w : World) (base : Nat) (v : Value) (l : List Se) : Prop := ∃ rs : List SeV, OSeV w base v rs ∧ rs.length = l.length ∧ ∀ i, i < rs.length → SeO w base (rs.getD i SeV.zero) (l.getD i Se.zero)
theorem OSe.nil (w : World) (base : Nat) : OSe w base (.slice none 0 0) [] := ⟨[], OSeV.nil w base, rfl, fun i hi => absurd hi (Nat.not_lt_zero _)⟩
theorem OSe.sees {w : World} {base : Nat} {v : Value} {l : List Se} (h : OSe w base v l) : LSe w v l := by
  obtain ⟨rs, a, b, c⟩ := h
  exact ⟨rs, a.sees, b, fun i hi => (c i hi).sees⟩
theorem OSe.below {w w' : World} {base : Nat} {v : Value} {l : List Se} (h : OSe w base v l) (hb : Below w.heap.size w w') : OSe w' base v l := by
  obtain ⟨rs, a, b, c⟩ := h
  exact ⟨rs, a.below hb, b, fun i hi => (c i hi).below hb⟩
theorem OSe.mono {w : World} {base base' : Nat} {v : Value} {l : List Se} (h : OSe w base v l) (hb : base' ≤ base) : OSe w base' v l := by
  obtain ⟨rs, a, b, c⟩ := h
  exact ⟨rs, a.mono hb, b, fun i hi => (c i hi).mono hb⟩
theorem OSe.turn {w w' : World} {base : Nat} {v : Value} {l : List Se} (h : OSe w base v l) {S : TypeId → Prop} (hs : ¬ S 71) (hw : ¬ S 104) (ht : Turns S w w') : OSe w' base v l := by
  obtain ⟨rs, a, b, c⟩ := h
  exact ⟨rs, a.turn hs ht, b, fun i hi => (c i hi).turn hw ht⟩

/-- A slice of these, the call's own, that reads, in w, as l. -/
def OEvV (w : World) (base : Nat) (v : Value) (l : List EvV) : Prop := w.ownsRow base 73 2 v l.length (l.map EvV.cells).flatten
theorem OEvV.nil (w : World) (base : Nat) : OEvV w base (.slice none 0 0) [] := ⟨rfl, .inl ⟨rfl, rfl⟩⟩
theorem OEvV.sees {w : World} {base : Nat} {v : Value} {l : List EvV} (h : OEvV w base v l) : SeesEvV w v l := SeesEvV.owned rfl h
theorem OEvV.below {w w' : World} {base : Nat} {v : Value} {l : List EvV} (h : OEvV w base v l) (hb : Below w.heap.size w w') : OEvV w' base v l := owns_below h hb
theorem OEvV.lt {w : World} {base : Nat} {v : Value} {l : List EvV} (h : OEvV w base v l) : ∀ k, v.ownBlock = some k → base ≤ k ∧ k < w.heap.size := World.ownsRow.lt h
theorem OEvV.mono {w : World} {base base' : Nat} {v : Value} {l : List EvV} (h : OEvV w base v l) (hb : base' ≤ base) : OEvV w base' v l := World.ownsRow.mono h hb
theorem OEvV.turn {w w' : World} {base : Nat} {v : Value} {l : List EvV} (h : OEvV w base v l) {S : TypeId → Prop} (hs : ¬ S 73) (ht : Turns S w w') : OEvV w' base v l := owns_turn h hs ht

/-- A value of the call's own that reads, in w, as x. -/
structure EvO (w : World) (base : Nat) (q : EvV) (x : Ev) : Prop where
  u : q.u = x.u
  l : OWt w base q.l.val x.l
theorem EvO.sees {w : World} {base : Nat} {q : EvV} {x : Ev} (h : EvO w base q x) : EvAt w q x := ⟨h.u, h.l.sees⟩
theorem EvO.below {w w' : World} {base : Nat} {q : EvV} {x : Ev} (h : EvO w base q x) (hb : Below w.heap.size w w') : EvO w' base q x := ⟨h.u, h.l.below hb⟩
theorem EvO.mono {w : World} {base base' : Nat} {q : EvV} {x : Ev} (h : EvO w base q x) (hb : base' ≤ base) : EvO w base' q x := ⟨h.u, h.l.mono hb⟩
theorem EvO.turn {w w' : World} {base : Nat} {q : EvV} {x : Ev} (h : EvO w base q x) {S : TypeId → Prop} (hw : ¬ S 104) (ht : Turns S w w') : EvO w' base q x := ⟨h.u, h.l.turn hw ht⟩

/-- A slice of these, all the call's own. -/
def OEv (w : World) (base : Nat) (v : Value) (l : List Ev) : Prop := ∃ rs : List EvV, OEvV w base v rs ∧ rs.length = l.length ∧ ∀ i, i < rs.length → EvO w base (rs.getD i EvV.zero) (l.getD i Ev.zero)
theorem OEv.nil (w : World) (base : Nat) : OEv w base (.slice none 0 0) [] := ⟨[], OEvV.nil w base, rfl, fun i hi => absurd hi (Nat.not_lt_zero _)⟩
theorem OEv.sees {w : World} {base : Nat} {v : Value} {l : List Ev} (h : OEv w base v l) : LEv w v l := by
  obtain ⟨rs, a, b, c⟩ := h
  exact ⟨rs, a.sees, b, fun i hi => (c i hi).sees⟩
theorem OEv.below {w w' : World} {base : Nat} {v : Value} {l : List Ev} (h : OEv w base v l) (hb : Below w.heap.size w w') : OEv w' base v l := by
  obtain ⟨rs, a, b, c⟩ := h
  exact ⟨rs, a.below hb, b, fun i hi => (c i hi).below hb⟩
theorem OEv.mono {w : World} {base base' : Nat} {v : Value} {l : List Ev} (h : OEv w base v l) (hb : base' ≤ base) : OEv w base' v l := by
  obtain ⟨rs, a, b, c⟩ := h
  exact ⟨rs, a.mono hb, b, fun i hi => (c i hi).mono hb⟩
theorem OEv.turn {w w' : World} {base : Nat} {v : Value} {l : List Ev} (h : OEv w base v l) {S : TypeId → Prop} (hs : ¬ S 73) (hw : ¬ S 104) (ht : Turns S w w') : OEv w' base v l := by
  obtain ⟨rs, a, b, c⟩ := h
  exact ⟨rs, a.turn hs ht, b, fun i hi => (c i hi).turn hw ht⟩

/-- A slice of these, the call's own, that reads, in w, as l. -/
def OQuV (w : World) (base : Nat) (v : Value) (l : List QuV) : Prop := w.ownsRow base 75 3 v l.length (l.map QuV.cells).flatten
theorem OQuV.nil (w : World) (base : Nat) : OQuV w base (.slice none 0 0) [] := ⟨rfl, .inl ⟨rfl, rfl⟩⟩
theorem OQuV.sees {w : World} {base : Nat} {v : Value} {l : List QuV} (h : OQuV w base v l) : SeesQuV w v l := SeesQuV.owned rfl h
theorem OQuV.below {w w' : World} {base : Nat} {v : Value} {l : List QuV} (h : OQuV w base v l) (hb : Below w.heap.size w w') : OQuV w' base v l := owns_below h hb
theorem OQuV.lt {w : World} {base : Nat} {v : Value} {l : List QuV} (h : OQuV w base v l) : ∀ k, v.ownBlock = some k → base ≤ k ∧ k < w.heap.size := World.ownsRow.lt h
theorem OQuV.mono {w : World} {base base' : Nat} {v : Value} {l : List QuV} (h : OQuV w base v l) (hb : base' ≤ base) : OQuV w base' v l := World.ownsRow.mono h hb
theorem OQuV.turn {w w' : World} {base : Nat} {v : Value} {l : List QuV} (h : OQuV w base v l) {S : TypeId → Prop} (hs : ¬ S 75) (ht : Turns S w w') : OQuV w' base v l := owns_turn h hs ht

/-- A value of the call's own that reads, in w, as x. -/
structure QuO (w : World) (base : Nat) (q : QuV) (x : Qu) : Prop where
  d : q.d = x.d
  vs : OI w base q.vs.val x.vs
  x : q.x = x.x
theorem QuO.sees {w : World} {base : Nat} {q : QuV} {x : Qu} (h : QuO w base q x) : QuAt w q x := ⟨h.d, h.vs.sees, h.x⟩
theorem QuO.below {w w' : World} {base : Nat} {q : QuV} {x : Qu} (h : QuO w base q x) (hb : Below w.heap.size w w') : QuO w' base q x := ⟨h.d, h.vs.below hb, h.x⟩
theorem QuO.mono {w : World} {base base' : Nat} {q : QuV} {x : Qu} (h : QuO w base q x) (hb : base' ≤ base) : QuO w base' q x := ⟨h.d, h.vs.mono hb, h.x⟩
theorem QuO.turn {w w' : World} {base : Nat} {q : QuV} {x : Qu} (h : QuO w base q x) {S : TypeId → Prop} (hn : ¬ S 3) (ht : Turns S w w') : QuO w' base q x := ⟨h.d, h.vs.turn hn ht, h.x⟩

/-- A slice of these, all the call's own. -/
def OQu (w : World) (base : Nat) (v : Value) (l : List Qu) : Prop := ∃ rs : List QuV, OQuV w base v rs ∧ rs.length = l.length ∧ ∀ i, i < rs.length → QuO w base (rs.getD i QuV.zero) (l.getD i Qu.zero)
theorem OQu.nil (w : World) (base : Nat) : OQu w base (.slice none 0 0) [] := ⟨[], OQuV.nil w base, rfl, fun i hi => absurd hi (Nat.not_lt_zero _)⟩
theorem OQu.sees {w : World} {base : Nat} {v : Value} {l : List Qu} (h : OQu w base v l) : LQu w v l := by
  obtain ⟨rs, a, b, c⟩ := h
  exact ⟨rs, a.sees, b, fun i hi => (c i hi).sees⟩
theorem OQu.below {w w' : World} {base : Nat} {v : Value} {l : List Qu} (h : OQu w base v l) (hb : Below w.heap.size w w') : OQu w' base v l := by
  obtain ⟨rs, a, b, c⟩ := h
  exact ⟨rs, a.below hb, b, fun i hi => (c i hi).below hb⟩
theorem OQu.mono {w : World} {base base' : Nat} {v : Value} {l : List Qu} (h : OQu w base v l) (hb : base' ≤ base) : OQu w base' v l := by
  obtain ⟨rs, a, b, c⟩ := h
  exact ⟨rs, a.mono hb, b, fun i hi => (c i hi).mono hb⟩
theorem OQu.turn {w w' : World} {base : Nat} {v : Value} {l : List Qu} (h : OQu w base v l) {S : TypeId → Prop} (hs : ¬ S 75) (hn : ¬ S 3) (ht : Turns S w w') : OQu w' base v l := by
  obtain ⟨rs, a, b, c⟩ := h
  exact ⟨rs, a.turn hs ht, b, fun i hi => (c i hi).turn hn ht⟩

/-- A partition's value, all of whose lists are the call's own. -/
structure PaO (w : World) (base : Nat) (q : PaV) (c : Pa) : Prop where
  md : q.md = c.md
  bg : q.bg = c.bg
  nx : q.nx = c.nx
  me : OI w base q.me.val c.me
  pr : OP w base q.pr.val c.pr
  bo : OBd w base q.bo.val c.bo
  bu : OBf w base q.bu.val c.bu
  se : OSe w base q.se.val c.se
  ev : OEv w base q.ev.val c.ev
  sa : OSp w base q.sa.val c.sa
  qu : OQu w base q.qu.val c.qu
  ld : q.ld = c.ld
  ll : OI w base q.ll.val c.ll
  lx : q.lx = c.lx
  gi : OI w base q.gi.val c.gi
theorem PaO.sees {w : World} {base : Nat} {q : PaV} {c : Pa} (h : PaO w base q c) : PaAt w q c := ⟨h.md, h.bg, h.nx, h.me.sees, h.pr.sees, h.bo.sees, h.bu.sees, h.se.sees, h.ev.sees, h.sa.sees, h.qu.sees, h.ld, h.ll.sees, h.lx, h.gi.sees⟩
theorem PaO.below {w w' : World} {base : Nat} {q : PaV} {c : Pa} (h : PaO w base q c) (hb : Below w.heap.size w w') : PaO w' base q c := ⟨h.md, h.bg, h.nx, h.me.below hb, h.pr.below hb, h.bo.below hb, h.bu.below hb, h.se.below hb, h.ev.below hb, h.sa.below hb, h.qu.below hb, h.ld, h.ll.below hb, h.lx, h.gi.below hb⟩
theorem PaO.mono {w : World} {base base' : Nat} {q : PaV} {c : Pa} (h : PaO w base q c) (hb : base' ≤ base) : PaO w base' q c := ⟨h.md, h.bg, h.nx, h.me.mono hb, h.pr.mono hb, h.bo.mono hb, h.bu.mono hb, h.se.mono hb, h.ev.mono hb, h.sa.mono hb, h.qu.mono hb, h.ld, h.ll.mono hb, h.lx, h.gi.mono hb⟩

/-- Where its processes alone have turned, and its Next. -/
theorem PaO.procs {w w' : World} {base : Nat} {q : PaV} {c : Pa} (h : PaO w base q c) {S : TypeId → Prop} (hn : ¬ S 3) (hw : ¬ S 104) (h1 : ¬ S 67) (h2 : ¬ S 69) (h3 : ¬ S 71) (h4 : ¬ S 73) (h5 : ¬ S 78) (h6 : ¬ S 75) (ht : Turns S w w') (l : List Px) (n : Int) (hp : OP w' base q.pr.val l) : PaO w' base { q with nx := n } { c with pr := l, nx := n } :=
  ⟨h.md, h.bg, rfl, h.me.turn hn ht, hp, h.bo.turn h1 hw ht, h.bu.turn h2 hn hw ht, h.se.turn h3 hw ht, h.ev.turn h4 hw ht, h.sa.turn h5 ht, h.qu.turn h6 hn ht, h.ld, h.ll.turn hn ht, h.lx, h.gi.turn hn ht⟩
end Go.Proofs.Ytdanfnbclbiidaa
