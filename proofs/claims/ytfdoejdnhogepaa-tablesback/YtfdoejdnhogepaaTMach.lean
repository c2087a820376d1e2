/-
  A function that is given numbers one by one and keeps a block of its own: what it leaves as it was; small laws.
-/
import Derived.Test.YtfdoejdnhogepaaTReg
import Derived.Test.YtfdoejdnhogepaaLLib
import Derived.Deep.AppendLies
namespace Go.Proofs.Ytfdoejdnhogepaa
open Go.RowKit
set_option linter.unusedVariables false

/-- The blocks that are the machine's own: its struct, and where its first field's slice lies. -/
def own (G : Nat) (w : World) (k : Nat) : Prop := k = G ∨ ∃ v, w.cell? ⟨G, 0, none⟩ = some v ∧ v.ownBlock = some k

/-- Below block number B nothing has turned but what is the machine's own; what was not its own is not now. -/
structure KB (G B : Nat) (w w' : World) : Prop where
  os : w'.os = w.os
  tape : w'.tape = w.tape
  output : w'.output = w.output
  size : w.heap.size ≤ w'.heap.size
  own : ∀ k, k < w.heap.size → ¬ own G w k → ¬ own G w' k
  block : ∀ k, k < B → k < w.heap.size → ¬ Go.Proofs.Ytfdoejdnhogepaa.own G w k → w'.heap[k]? = w.heap[k]?

theorem KB.refl (G B : Nat) (w : World) : KB G B w w := ⟨rfl, rfl, rfl, Nat.le_refl _, fun _ _ h => h, fun _ _ _ _ => rfl⟩
theorem KB.trans {G B : Nat} {a b c : World} (h : KB G B a b) (k : KB G B b c) : KB G B a c :=
  ⟨k.os.trans h.os, k.tape.trans h.tape, k.output.trans h.output, Nat.le_trans h.size k.size,
    fun i hi ho => k.own i (Nat.lt_of_lt_of_le hi h.size) (h.own i hi ho),
    fun i hB hi ho => (k.block i hB (Nat.lt_of_lt_of_le hi h.size) (h.own i hi ho)).trans (h.block i hB hi ho)⟩
theorem KB.mono {G B B' : Nat} {w w' : World} (h : KB G B w w') (hB : B' ≤ B) : KB G B' w w' := ⟨h.os, h.tape, h.output, h.size, h.own, fun k hk => h.block k (Nat.lt_of_lt_of_le hk hB)⟩

theorem own_same {G : Nat} {w w' : World} (h : w'.heap[G]? = w.heap[G]?) (k : Nat) : own G w' k ↔ own G w k := by
  unfold own
  rw [World.cell?_of_block (w := w) (a := ⟨G, 0, none⟩) h]

/-- Everything the machine needs is there: its own blocks are. -/
def Live (G : Nat) (w : World) : Prop := ∀ k, own G w k → k < w.heap.size
theorem Live.lt {G : Nat} {w : World} (h : Live G w) : G < w.heap.size := h G (.inl rfl)

theorem KB.grown {G B : Nat} {a w w' : World} {row : Option Nat} (h : KB G B a w) (hL : Live G w) (hg : w.grownBy w' row) (hB : B ≤ w.heap.size) (hr : ∀ k, row = some k → B ≤ k ∧ ¬ Go.Proofs.Ytfdoejdnhogepaa.own G w k) : KB G B a w' := by
  have hG : w'.heap[G]? = w.heap[G]? := hg.block G hL.lt (fun e => (hr G e.symm).2 (.inl rfl))
  refine h.trans ⟨hg.os, hg.tape, hg.output, hg.size, fun k hk ho hk' => ho ((own_same hG k).1 hk'), fun k hk hk2 _ => hg.block k hk2 (fun e => by have := (hr k e.symm).1; omega)⟩
theorem KB.alloc {G B : Nat} {a w : World} (h : KB G B a w) (hL : Live G w) (hB : B ≤ w.heap.size) (o : Obj) : KB G B a (w.alloc o) :=
  h.grown (row := none) hL (World.grownBy_alloc w o none) hB (by simp)
theorem KB.setCell {G B : Nat} {a w : World} (h : KB G B a w) {p : Addr} (hp : B ≤ p.block) (ho : ¬ Go.Proofs.Ytfdoejdnhogepaa.own G w p.block) (u : Value) : KB G B a (w.setCell p u) := by
  have hG : (w.setCell p u).heap[G]? = w.heap[G]? := Below.heap_setCell _ _ _ _ (fun e => ho (.inl e.symm))
  exact h.trans ⟨rfl, rfl, rfl, by simp, fun k hk ho hk' => ho ((own_same hG k).1 hk'), fun k hk hk2 _ => Below.heap_setCell _ _ _ _ (by omega)⟩
theorem KB.live {G B : Nat} {w w' : World} (h : KB G B w w') : True := trivial

/-- What is new is not the machine's own. -/
theorem Live.fresh {G : Nat} {w : World} (h : Live G w) {k : Nat} (hk : w.heap.size ≤ k) : ¬ own G w k := fun ho => by have := h k ho; omega
theorem own_grown {G : Nat} {w w' : World} {row : Option Nat} (hL : Live G w) (hg : w.grownBy w' row) (hr : ∀ k, row = some k → ¬ own G w k) (k : Nat) : own G w' k ↔ own G w k :=
  own_same (hg.block G hL.lt (fun e => hr G e.symm (.inl rfl))) k
theorem own_alloc {G : Nat} {w : World} (hL : Live G w) (o : Obj) (k : Nat) : own G (w.alloc o) k ↔ own G w k := own_grown hL (World.grownBy_alloc w o none) (by simp) k
theorem own_set {G : Nat} {w : World} {p : Addr} (ho : ¬ own G w p.block) (u : Value) (k : Nat) : own G (w.setCell p u) k ↔ own G w k :=
  own_same (Below.heap_setCell _ _ _ _ (fun e => ho (.inl e.symm))) k
theorem Live.alloc {G : Nat} {w : World} (hL : Live G w) (o : Obj) : Live G (w.alloc o) := fun k hk => by have := hL k ((own_alloc hL o k).1 hk); simp; omega

/-- A block that is not the machine's own, and lies where it lay. -/
theorem BoxAt.kept {G B : Nat} {w w' : World} {g : Nat} {t : TypeId} {cs : Array Value} (h : BoxAt w g t cs) (hk : KB G B w w') (hg : g < B) (ho : ¬ own G w g) : BoxAt w' g t cs := (hk.block g hg h.lt ho).trans h

/-- Where a slice has elements, these do not lie in what is the machine's own. -/
def Held (G : Nat) (w : World) (v : Value) : Prop := ∀ x n c, v = .slice (some x) n c → 0 < n → x.block < w.heap.size ∧ ¬ own G w x.block
theorem Held.kept {G B : Nat} {w w' : World} {v : Value} (h : Held G w v) (hk : KB G B w w') : Held G w' v := fun x n c hv hn =>
  ⟨Nat.lt_of_lt_of_le (h x n c hv hn).1 hk.size, hk.own _ (h x n c hv hn).1 (h x n c hv hn).2⟩
theorem Held.nil (G : Nat) (w : World) : Held G w (.slice none 0 0) := fun x n c hv => by simp at hv

theorem Sees.kept {G : Nat} {w w' : World} {k : IntKind} {v : Value} {xs : List Int} (h : Sees w k v xs) (hh : Held G w v) (hk : KB G w.heap.size w w') : Sees w' k v xs := by
  rcases h with h | ⟨x, cap, hv, h1, h2, hc⟩
  · exact .inl h
  · refine .inr ⟨x, cap, hv, h1, h2, fun i hi => ?_⟩
    obtain ⟨hb, ho⟩ := hh x _ _ hv (by omega)
    have hbl : (x.add i).block = x.block := by unfold Addr.add; split <;> rfl
    rw [World.cell?_of_block (w := w) (by rw [hbl]; exact hk.block _ hb hb ho)]
    exact hc i hi
theorem SeesC.kept {G : Nat} {w w' : World} {c : Nat} {v : Value} {es : List (List Value)} (h : SeesC w c v es) (hh : Held G w v) (hk : KB G w.heap.size w w') : SeesC w' c v es := by
  rcases h with h | ⟨x, cap, hv, h1, h2, hc⟩
  · exact .inl h
  · refine .inr ⟨x, cap, hv, h1, h2, fun i hi j hj => ?_⟩
    obtain ⟨hb, ho⟩ := hh x _ _ hv (by omega)
    have hbl : (x.add (i * c + j)).block = x.block := by unfold Addr.add; split <;> rfl
    rw [World.cell?_of_block (w := w) (by rw [hbl]; exact hk.block _ hb hb ho)]
    exact hc i hi j hj

/-- A row of the call's own that is not the machine's. -/
def Row (G : Nat) (w : World) (base : Nat) (e : TypeId) (c : Nat) (v : Value) (n : Nat) (xs : List Value) : Prop := w.ownsRow base e c v n xs ∧ ∀ k, v.ownBlock = some k → ¬ own G w k
theorem Row.kept {G B : Nat} {w w' : World} {base : Nat} {e : TypeId} {c : Nat} {v : Value} {n : Nat} {xs : List Value} (h : Row G w base e c v n xs) (hk : KB G w.heap.size w w') : Row G w' base e c v n xs := by
  obtain ⟨⟨h1, h2⟩, h3⟩ := h
  rcases h2 with h2 | ⟨g, cap, cur, hv, hg, hh, hrest⟩
  · exact ⟨⟨h1, .inl h2⟩, fun k hk' => by rw [h2.1] at hk'; simp [Value.ownBlock] at hk'⟩
  · have hlt := lt_of_block hh
    have ho := h3 g (by rw [hv]; rfl)
    refine ⟨⟨h1, .inr ⟨g, cap, cur, hv, hg, (hk.block g hlt hlt ho).trans hh, hrest⟩⟩, fun k hk' => ?_⟩
    rw [hv] at hk'
    simp [Value.ownBlock] at hk'
    subst hk'
    exact hk.own _ hlt ho
theorem Row.nil (G : Nat) (w : World) (base : Nat) (e : TypeId) (c : Nat) : Row G w base e c (.slice none 0 0) 0 [] := ⟨World.ownsRow_nil _ _ _ _, fun k hk => by simp [Value.ownBlock] at hk⟩
theorem Row.held {G : Nat} {w : World} {base : Nat} {e : TypeId} {c : Nat} {v : Value} {n : Nat} {xs : List Value} (h : Row G w base e c v n xs) : Held G w v := by
  intro x m cp hv hm
  obtain ⟨⟨h1, h2⟩, h3⟩ := h
  rcases h2 with h2 | ⟨g, cap, cur, hv2, hg, hh, hrest⟩
  · rw [h2.1] at hv; simp at hv
  · rw [hv2] at hv
    simp only [Value.slice.injEq, Option.some.injEq] at hv
    obtain ⟨rfl, _, _⟩ := hv
    exact ⟨lt_of_block hh, h3 g (by rw [hv2]; rfl)⟩
theorem Row.alloc {G : Nat} {w : World} {base : Nat} {e : TypeId} {c : Nat} {v : Value} {n : Nat} {xs : List Value} (h : Row G w base e c v n xs) (hL : Live G w) (o : Obj) : Row G (w.alloc o) base e c v n xs :=
  ⟨h.1.alloc o, fun k hk hk' => h.2 k hk ((own_alloc hL o k).1 hk')⟩
/-- Behind an append. -/
theorem Row.grown {G : Nat} {w w' : World} {base : Nat} {e : TypeId} {c : Nat} {v : Value} {n : Nat} {xs : List Value} (h : Row G w base e c v n xs) (hL : Live G w) {e' : TypeId} {g cap n' : Nat} {xs' : List Value}
    (ho : w'.ownsRow base e c (.slice (some ⟨g, 0, none⟩) n' cap) n' xs') (hg : w.grownBy w' v.ownBlock) (hl : v.ownBlock = some g ∨ g = w.heap.size) : Row G w' base e c (.slice (some ⟨g, 0, none⟩) n' cap) n' xs' := by
  refine ⟨ho, fun k hk hk' => ?_⟩
  simp [Value.ownBlock] at hk
  subst hk
  rw [own_grown hL hg h.2] at hk'
  rcases hl with hl | hl
  · exact h.2 _ hl hk'
  · exact hL.fresh (Nat.le_of_eq hl.symm) hk'
theorem Live.grown {G : Nat} {w w' : World} {row : Option Nat} (hL : Live G w) (hg : w.grownBy w' row) (hr : ∀ k, row = some k → ¬ own G w k) : Live G w' :=
  fun k hk => Nat.lt_of_lt_of_le (hL k ((own_grown hL hg hr k).1 hk)) hg.size
end Go.Proofs.Ytfdoejdnhogepaa
