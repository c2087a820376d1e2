/-
  Where the lists of a configuration lie; rows that are kept beside each other.
-/
import Derived.Test.YtfdoejdnhogepaaTWalk
import Derived.Test.YtfdoejdnhogepaaTPlanF
namespace Go.Proofs.Ytfdoejdnhogepaa
open Go.RowKit
set_option linter.unusedVariables false

/-- Where a slice has elements, its block is one of S. -/
def Blk (S : Nat → Prop) (v : Value) : Prop := ∀ x n c, v = .slice (some x) n c → 0 < n → S x.block
theorem Blk.imp {S S' : Nat → Prop} {v : Value} (h : Blk S v) (hi : ∀ b, S b → S' b) : Blk S' v := fun x n c hv hn => hi _ (h x n c hv hn)
theorem Blk.and {S S' : Nat → Prop} {v : Value} (h : Blk S v) (h' : Blk S' v) : Blk (fun b => S b ∧ S' b) v := fun x n c hv hn => ⟨h x n c hv hn, h' x n c hv hn⟩
theorem Sees.turn {w w' : World} {k : IntKind} {v : Value} {xs : List Int} (h : Sees w k v xs) (hb : Blk (fun b => w'.heap[b]? = w.heap[b]?) v) : Sees w' k v xs := by
  rcases h with h | ⟨x, cap, hv, h1, h2, hc⟩
  · exact .inl h
  · refine .inr ⟨x, cap, hv, h1, h2, fun i hi => ?_⟩
    have hbl : (x.add i).block = x.block := by unfold Addr.add; split <;> rfl
    rw [World.cell?_of_block (w := w) (by rw [hbl]; exact hb x _ _ hv (by omega))]
    exact hc i hi
theorem SeesC.turn {w w' : World} {c : Nat} {v : Value} {es : List (List Value)} (h : SeesC w c v es) (hb : Blk (fun b => w'.heap[b]? = w.heap[b]?) v) : SeesC w' c v es := by
  rcases h with h | ⟨x, cap, hv, h1, h2, hc⟩
  · exact .inl h
  · refine .inr ⟨x, cap, hv, h1, h2, fun i hi j hj => ?_⟩
    have hbl : (x.add (i * c + j)).block = x.block := by unfold Addr.add; split <;> rfl
    rw [World.cell?_of_block (w := w) (by rw [hbl]; exact hb x _ _ hv (by omega))]
    exact hc i hi j hj
theorem Sees.blk {w : World} {k : IntKind} {v : Value} {xs : List Int} (h : Sees w k v xs) : Blk (· < w.heap.size) v := by
  intro x n c hv hn
  rcases h with ⟨h, _⟩ | ⟨x', cap, hv', h1, h2, hc⟩
  · rw [h] at hv; simp at hv
  · rw [hv'] at hv
    simp only [Value.slice.injEq, Option.some.injEq] at hv
    obtain ⟨rfl, rfl, rfl⟩ := hv
    have hbl : (x'.add 0).block = x'.block := by unfold Addr.add; split <;> rfl
    rw [← hbl]
    exact World.block_lt_of_cell? w _ (hc 0 hn)
theorem SeesC.blk {w : World} {c : Nat} (hc0 : 0 < c) {v : Value} {es : List (List Value)} (h : SeesC w c v es) : Blk (· < w.heap.size) v := by
  intro x n cc hv hn
  rcases h with ⟨h, _⟩ | ⟨x', cap, hv', h1, h2, hc⟩
  · rw [h] at hv; simp at hv
  · rw [hv'] at hv
    simp only [Value.slice.injEq, Option.some.injEq] at hv
    obtain ⟨rfl, rfl, rfl⟩ := hv
    have hbl : (x'.add (0 * c + 0)).block = x'.block := by unfold Addr.add; split <;> rfl
    rw [← hbl]
    exact World.block_lt_of_cell? w _ (hc 0 hn 0 hc0)

structure PtBlk (S : Nat → Prop) (q : Pv) : Prop where
  rg : Blk S q.v1.val
  pc : Blk S q.v2.val
  bc : Blk S q.v4.val
  sc : Blk S q.v5.val
  sa : Blk S q.v7.val
  qu : Blk S q.v8.val
  tb : Blk S q.v10.val
theorem PtBlk.imp {S S' : Nat → Prop} {q : Pv} (h : PtBlk S q) (hi : ∀ b, S b → S' b) : PtBlk S' q := ⟨h.rg.imp hi, h.pc.imp hi, h.bc.imp hi, h.sc.imp hi, h.sa.imp hi, h.qu.imp hi, h.tb.imp hi⟩
theorem PtBlk.and {S S' : Nat → Prop} {q : Pv} (h : PtBlk S q) (h' : PtBlk S' q) : PtBlk (fun b => S b ∧ S' b) q :=
  ⟨h.rg.and h'.rg, h.pc.and h'.pc, h.bc.and h'.bc, h.sc.and h'.sc, h.sa.and h'.sa, h.qu.and h'.qu, h.tb.and h'.tb⟩
theorem PtAt.turn {w w' : World} {q : Pv} {p : Pt} (h : PtAt w q p) (hb : PtBlk (fun b => w'.heap[b]? = w.heap[b]?) q) : PtAt w' q p :=
  ⟨h.wo, SeesC.turn h.rg hb.rg, SeesC.turn h.pc hb.pc, h.bo, SeesC.turn h.bc hb.bc, SeesC.turn h.sc hb.sc, h.ev, h.sa.turn hb.sa, h.qu.turn hb.qu, h.la, h.tb.turn hb.tb⟩
theorem PtAt.blk {w : World} {q : Pv} {p : Pt} (h : PtAt w q p) : PtBlk (· < w.heap.size) q :=
  ⟨SeesC.blk (by decide) h.rg, SeesC.blk (by decide) h.pc, SeesC.blk (by decide) h.bc, SeesC.blk (by decide) h.sc, h.sa.blk, h.qu.blk, h.tb.blk⟩

/-- A row beside others. -/
structure RS where
  base : Nat
  e : TypeId
  c : Nat
  v : Value
  n : Nat
  xs : List Value
def Rws (G lo : Nat) (w : World) (l : List RS) : Prop := ∀ r ∈ l, lo ≤ r.base ∧ Row G w r.base r.e r.c r.v r.n r.xs
theorem Rws.nil (G lo : Nat) (w : World) : Rws G lo w [] := fun r hr => by simp at hr
theorem Rws.kept {G lo : Nat} {w w' : World} {l : List RS} (h : Rws G lo w l) (hk : KB G w.heap.size w w') : Rws G lo w' l := fun r hr => ⟨(h r hr).1, Row.kept (B := 0) (h r hr).2 hk⟩
theorem Rws.cons {G lo : Nat} {w : World} {l : List RS} (h : Rws G lo w l) {base : Nat} {e : TypeId} {c : Nat} {v : Value} {n : Nat} {xs : List Value} (hb : lo ≤ base) (hr : Row G w base e c v n xs) : Rws G lo w (⟨base, e, c, v, n, xs⟩ :: l) := by
  intro r hr'
  rcases List.mem_cons.1 hr' with rfl | h'
  · exact ⟨hb, hr⟩
  · exact h r h'
theorem Row.turn {G : Nat} {w w' : World} {base : Nat} {e : TypeId} {c : Nat} {v : Value} {n : Nat} {xs : List Value} (h : Row G w base e c v n xs) (hs : ∀ k, base ≤ k → w'.heap[k]? = w.heap[k]?) (ho : ∀ k, own G w' k ↔ own G w k) : Row G w' base e c v n xs := by
  obtain ⟨⟨h1, h2⟩, h3⟩ := h
  refine ⟨⟨h1, ?_⟩, fun k hk hk' => h3 k hk ((ho k).1 hk')⟩
  rcases h2 with h2 | ⟨g, cap, cur, hv, hg, hh, hrest⟩
  · exact .inl h2
  · exact .inr ⟨g, cap, cur, hv, hg, (hs g hg).trans hh, hrest⟩
theorem Rws.set {G lo : Nat} {w : World} {l : List RS} (h : Rws G lo w l) {p : Addr} (hp : p.block < lo) (ho : ¬ own G w p.block) (u : Value) : Rws G lo (w.setCell p u) l :=
  fun r hr => ⟨(h r hr).1, (h r hr).2.turn (fun k hk => Below.heap_setCell _ _ _ _ (by have := (h r hr).1; omega)) (own_set ho u)⟩
theorem Rws.turn {G lo : Nat} {w w' : World} {l : List RS} (h : Rws G lo w l) (hs : ∀ k, lo ≤ k → w'.heap[k]? = w.heap[k]?) (ho : ∀ k, own G w' k ↔ own G w k) : Rws G lo w' l :=
  fun r hr => ⟨(h r hr).1, (h r hr).2.turn (fun k hk => hs k (Nat.le_trans (h r hr).1 hk)) ho⟩
theorem Row.slice {G : Nat} {w : World} {base : Nat} {e : TypeId} {c : Nat} {v : Value} {n : Nat} {xs : List Value} (h : Row G w base e c v n xs) : ∃ s : Sl, v = .slice s.a s.n s.c := by
  rcases h.1.2 with h2 | ⟨g, cap, cur, hv, _⟩
  · exact ⟨⟨none, 0, 0⟩, h2.1⟩
  · exact ⟨⟨some ⟨g, 0, none⟩, n, cap⟩, hv⟩
theorem Row.from {G : Nat} {w : World} {base : Nat} {e : TypeId} {c : Nat} {v : Value} {n : Nat} {xs : List Value} (h : Row G w base e c v n xs) : Blk (fun b => base ≤ b ∧ b < w.heap.size ∧ ¬ own G w b) v := by
  intro x m cp hv hm
  rcases h.1.2 with h2 | ⟨g, cap, cur, hv2, hg, hh, _⟩
  · rw [h2.1] at hv; simp at hv
  · rw [hv2] at hv
    simp only [Value.slice.injEq, Option.some.injEq] at hv
    obtain ⟨rfl, _, _⟩ := hv
    exact ⟨hg, lt_of_block hh, h.2 g (by rw [hv2]; rfl)⟩
theorem SeesR.owned {w : World} {base : Nat} {e : TypeId} {v : Value} {n : Nat} {l : List Rg} (hn : n = l.length) (h : w.ownsRow base e 3 v n (l.map Rg.cells).flatten) : SeesR w v l :=
  SeesC.of_owns (fun e he => by obtain ⟨x, _, rfl⟩ := List.mem_map.1 he; rfl) (by simp [hn]) h

/-- Its lists are few. -/
def Pt.few (p : Pt) : Prop := p.rg.length ≤ 1000 ∧ p.pc.length ≤ 1000 ∧ p.bc.length ≤ 1000 ∧ p.sc.length ≤ 1000 ∧ p.sa.length ≤ 1000 ∧ p.qu.length ≤ 1000 ∧ p.tb.length ≤ 1000
end Go.Proofs.Ytfdoejdnhogepaa
