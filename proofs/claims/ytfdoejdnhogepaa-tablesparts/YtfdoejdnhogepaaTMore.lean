/-
  Slices of structs appended to; what a configuration that may be may not become.
-/
import Derived.Test.YtfdoejdnhogepaaTFew
import Derived.Test.YtfdoejdnhogepaaTMay
namespace Go.Proofs.Ytfdoejdnhogepaa
open Go.RowKit
set_option linter.unusedVariables false

theorem BoxAt.newAt (w : World) (g : Nat) (h : w.heap.size = g) (t : TypeId) (cs : Array Value) : BoxAt (w.alloc (.cells cs t)) g t cs := by subst h; exact BoxAt.new w t cs
theorem owns_other {w : World} {base : Nat} {e : TypeId} {size : Nat} {v : Value} {n : Nat} {xs : List Value} (h : w.ownsRow base e size v n xs) {g : Nat} (j : Nat) (u : Value) (hg : g < base) :
    (w.setCell ⟨g, j, none⟩ u).ownsRow base e size v n xs := by
  refine ⟨h.1, ?_⟩
  rcases h.2 with h' | ⟨g', cap', cur, h', hb, hg', r⟩
  · exact .inl h'
  · exact .inr ⟨g', cap', cur, h', hb, by rw [heap_setCell_other w ⟨g, j, none⟩ g' u (by simp; omega)]; exact hg', r⟩
theorem owns_grown {w w' : World} {row : Option Nat} {base : Nat} {e : TypeId} {size : Nat} {v : Value} {n : Nat} {xs : List Value} (h : w.ownsRow base e size v n xs) (hg : w.grownBy w' row) (hne : ∀ g, v.ownBlock = some g → some g ≠ row) :
    w'.ownsRow base e size v n xs := by
  refine ⟨h.1, ?_⟩
  rcases h.2 with h' | ⟨g', cap', cur, h', hb, hg', r⟩
  · exact .inl h'
  · exact .inr ⟨g', cap', cur, h', hb, by rw [hg.block g' (Array.getElem?_eq_some_iff.1 hg').1 (hne g' (by rw [h']; rfl))]; exact hg', r⟩
theorem owns_one {w : World} {g : Nat} {t : TypeId} {u : Value} (h : BoxAt w g t #[u]) : w.ownsRow g t 1 (.slice (some ⟨g, 0, none⟩) 1 1) 1 [u] :=
  ⟨rfl, .inr ⟨g, 1, #[u], rfl, Nat.le_refl _, h, Nat.le_refl _, by decide, rfl, rfl⟩⟩
theorem cells_one (l : List (List Value)) (h : ∀ e ∈ l, ∀ u ∈ e, u.oneCell' = true) : ∀ u ∈ l.flatten, u.oneCell' = true := by
  intro u hu
  obtain ⟨e, he, hr⟩ := List.mem_flatten.1 hu
  exact h e he u hr

/-- append(nil, x...) of structs. -/
theorem wpList_append_seesC {P : Program} {w : World} {ops : Array Oper} {rest : List Oper} {o : Oper} {a : Act} {Q : Exit → Act → World → Prop} (hgd : o.guard = none) (s x : Operand) (t : TypeId)
    (ho : o.op = .call { callee := .builtin .append, args := #[s, x], argTypes := #[t, t] })
    (base : Nat) (e : TypeId) (i : TypeInfo) (z : Value) (c bytes : Nat) (ht : P.underlying t = some (.slice e)) (hi : P.info? e = some i) (hz : i.zero = some z)
    (hsize : i.size = c) (hby : i.bytes = bytes) (hzs : z.cells.size = c) (hc0 : 0 < c)
    (v : Value) (n : Nat) (xs : List Value) (hs : a.eval s = v) (hown : w.ownsRow base e c v n xs)
    (y : Value) (es : List (List Value)) (hx : a.eval x = y) (hsee : SeesC w c y es) (hl : ∀ e ∈ es, e.length = c) (h1 : ∀ e ∈ es, ∀ u ∈ e, u.oneCell' = true)
    (h63 : n + es.length ≤ maxLen) (hbytes : (n + es.length) * bytes ≤ 140737488355328) (hbase : base ≤ w.heap.size)
    (h : ∀ v' w', w'.ownsRow base e c v' (n + es.length) (xs ++ es.flatten) → w.grownBy w' v.ownBlock → wpList P ops Q rest (a.put o.dst v') w') : wpList P ops Q (o :: rest) a w := by
  rcases hsee with ⟨rfl, rfl⟩ | ⟨ad, cap, rfl, h3, h2, hc⟩
  · refine wpList_append_own_none hgd s x t ho base e i c ht hi v n xs hs hown hx ?_
    exact h v w (by simpa using hown) (World.grownBy.refl _ _)
  · exact wpList_append_own w hgd s x t ho base e i z c bytes ht hi hz hsize hby hzs hc0 v n xs hs hown ad _ cap es.flatten hx (flat_len c es hl) (SeesC.cells hl hc) (cells_one es h1) h63 hbytes hbase (fun v' w' a b _ => h v' w' a b)

theorem wn_len (l : List Wn) : ∀ e ∈ l.map Wn.cells, e.length = 3 := by intro e he; obtain ⟨r, _, rfl⟩ := List.mem_map.1 he; rfl
theorem wn_one (l : List Wn) : ∀ e ∈ l.map Wn.cells, ∀ u ∈ e, u.oneCell' = true := by
  intro e he u hu; obtain ⟨r, _, rfl⟩ := List.mem_map.1 he; simp [Wn.cells] at hu; rcases hu with rfl | rfl | rfl <;> rfl
theorem ch_len (l : List Ch) : ∀ e ∈ l.map Ch.cells, e.length = 5 := by intro e he; obtain ⟨r, _, rfl⟩ := List.mem_map.1 he; rfl
theorem ch_one (l : List Ch) : ∀ e ∈ l.map Ch.cells, ∀ u ∈ e, u.oneCell' = true := by
  intro e he u hu; obtain ⟨r, _, rfl⟩ := List.mem_map.1 he; simp [Ch.cells] at hu; rcases hu with rfl | rfl | rfl | rfl | rfl <;> rfl
theorem pv_len (l : List Pv) : ∀ e ∈ l.map Pv.cells, e.length = 11 := by intro e he; obtain ⟨r, _, rfl⟩ := List.mem_map.1 he; rfl
theorem pv_one (l : List Pv) : ∀ e ∈ l.map Pv.cells, ∀ u ∈ e, u.oneCell' = true := by
  intro e he u hu; obtain ⟨r, _, rfl⟩ := List.mem_map.1 he; simp [Pv.cells] at hu; rcases hu with rfl | rfl | rfl | rfl | rfl | rfl | rfl | rfl | rfl | rfl | rfl <;> rfl

theorem parts_more {w : World} {base : Nat} {e : TypeId} {v : Value} {qs : List Pv} {l : List Pt} {n : Nat} (hn : n = qs.length + 1) (h : w.ownsRow base e 11 v n ((qs ++ [Pv.zero]).map Pv.cells).flatten) (hl : qs.length = l.length)
    (hp : ∀ i, i < l.length → PtAt w (qs.getD i Pv.zero) (l.getD i Pt.zero)) : SeesPs w v (l ++ [Pt.zero]) := by
  refine ⟨qs ++ [Pv.zero], SeesPv.owned (by simpa using hn) h, by simp [hl], fun i hi => ?_⟩
  rcases Nat.lt_or_ge i l.length with h' | h'
  · have e1 : (qs ++ [Pv.zero]).getD i Pv.zero = qs.getD i Pv.zero := by simp [List.getD, List.getElem?_append_left (show i < qs.length by omega)]
    have e2 : (l ++ [Pt.zero]).getD i Pt.zero = l.getD i Pt.zero := by simp [List.getD, List.getElem?_append_left h']
    rw [e1, e2]
    exact hp i h'
  · obtain rfl : i = l.length := by simp at hi; omega
    have e1 : (qs ++ [Pv.zero]).getD l.length Pv.zero = Pv.zero := by rw [← hl]; simp [List.getD]
    have e2 : (l ++ [Pt.zero]).getD l.length Pt.zero = Pt.zero := by simp [List.getD]
    rw [e1, e2]
    exact ⟨rfl, SeesC.nil _ _, SeesC.nil _ _, rfl, SeesC.nil _ _, SeesC.nil _ _, rfl, Sees.nil _ _, Sees.nil _ _, rfl, Sees.nil _ _⟩

/-- What a configuration that may be has. -/
theorem may_has {c : Cf} (h : mayC c = true) : 1 ≤ c.fr ∧ c.fr ≤ 4096 ∧ 1 ≤ c.pa.length ∧ c.pa.length ≤ 4 ∧ 1 ≤ c.wi.length ∧ c.wi.length ≤ 12 ∧ c.ch.length ≤ 8 := by
  unfold mayC at h
  simp only [Bool.and_eq_true, inB, decide_eq_true_eq] at h
  omega
theorem great_frame (c : Cf) (x : Int) (h : 4096 < x) : mayC { c with fr := x } = false := by
  rcases hm : mayC { c with fr := x }
  · rfl
  · have := (may_has hm).2.1; simp at this; omega
theorem great_switch (c : Cf) : mayC { c with sw := c.fr + 1 } = false := by
  rcases hm : mayC { c with sw := c.fr + 1 }
  · rfl
  · unfold mayC at hm
    simp only [Bool.and_eq_true, inB, decide_eq_true_eq] at hm
    omega
theorem great_line (c : Cf) : mayC { c with li := [(c.pa.length : Int)] } = false := by
  rcases hm : mayC { c with li := [(c.pa.length : Int)] }
  · rfl
  · unfold mayC at hm
    simp only [Bool.and_eq_true] at hm
    have := (allN_iff _ _).1 hm.1.1.1.1.2.2 0 (by simp)
    simp only [inB, decide_eq_true_eq, List.getD_cons_zero] at this
    omega
theorem great_window (c : Cf) (v : Wn) (l : List Wn) (hv : v.p = (c.pa.length : Int)) : mayC { c with wi := v :: l } = false := by
  rcases hm : mayC { c with wi := v :: l }
  · rfl
  · unfold mayC at hm
    simp only [Bool.and_eq_true] at hm
    have := (allN_iff _ _).1 hm.1.1.1.2.2 0 (by simp)
    simp only [winB, inB, Bool.and_eq_true, decide_eq_true_eq, List.getD_cons_zero] at this
    omega
theorem great_part (c : Cf) : mayC { c with pa := c.pa ++ [Pt.zero] } = false := by
  rcases hm : mayC { c with pa := c.pa ++ [Pt.zero] }
  · rfl
  · unfold mayC at hm
    simp only [Bool.and_eq_true] at hm
    have := (allN_iff _ _).1 hm.1.1.1.1.1.2.2 c.pa.length (by simp)
    have hg : (c.pa ++ [Pt.zero]).getD c.pa.length Pt.zero = Pt.zero := by simp [List.getD]
    rw [hg] at this
    simp [partB, Pt.zero, inB] at this

end Go.Proofs.Ytfdoejdnhogepaa
