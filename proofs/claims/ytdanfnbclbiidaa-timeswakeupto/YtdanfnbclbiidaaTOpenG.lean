/-
  Structs, slices and a partition's table as arguments.
-/
import Derived.Test.YtdanfnbclbiidaaRows
import Derived.Test.YtdanfnbclbiidaaTPtR
import Derived.Deep.Strs
import Derived.RowKit
namespace Go.Proofs.Ytdanfnbclbiidaa
open Go.RowKit Go.Deep Go.ChangeShapes Go.WideShapes
set_option linter.unusedVariables false

/-- A number of a machine. -/
def wide1 (x : Int) : Prop := -9223372036854775808 ≤ x ∧ x ≤ 9223372036854775807

/-- A process as it is configured, with such numbers. -/
def Pc.wide (v : Pc) : Prop := wide1 v.pr ∧ wide1 v.pe ∧ wide1 v.li ∧ wide1 v.en

theorem getD_memG {α : Type} {l : List α} {i : Nat} {d : α} (hi : i < l.length) : l.getD i d ∈ l := by
  simp [List.getD, List.getElem?_eq_getElem hi]

theorem rows_gen {H : Type} {enc : TypeId × Value → H} {w : World} {base : Nat} {spare : Nat → Bool} {held : Bool} {X : Type} (z : X) (cells : X → List Value) (c : Nat) (E : X → Prop) (hlen : ∀ r, (cells r).length = c) {t e : TypeId} (ht : Try.prog.underlying t = some (.slice e)) (hc : Try.prog.cellsOf e = c)
    (hone : ∀ (fuel : Nat) (cs : List Value) (x : DataW H × List MemPlace), DataW.trod enc Try.prog w base spare held fuel e cs = some x → ∃ r : X, cs = cells r ∧ E r)
    {fuel : Nat} {cs : List Value} {x : DataW H × List MemPlace} (h : DataW.trod enc Try.prog w base spare held fuel t cs = some x) :
    ∃ (s : Sl) (l : List X), cs = [.slice s.a s.n s.c] ∧ SeesC w c s.val (l.map cells) ∧ ∀ r ∈ l, E r := by
  rcases open_slice ht h with ⟨hcs, _⟩ | ⟨x, len, cap, m, n, D, Pl, hcs, _, hl, hm, hmm, _, hx⟩
  · exact ⟨⟨none, 0, 0⟩, [], hcs, SeesC.nil _ _, by simp⟩
  · have hlm : len ≤ m := by rw [hmm]; split <;> omega
    have hin : Inhabited X := ⟨z⟩
    obtain ⟨R, hR⟩ := choose_lt (α := X) (n := m) (p := fun i r => E r ∧ ∀ j, j < c → w.cell? (x.add (i * c + j)) = some ((cells r).getD j .nilIface)) (fun i hi => by
      obtain ⟨cs', h1, h2⟩ := hx i hi
      obtain ⟨r, rfl, hE⟩ := hone _ _ _ h2
      refine ⟨r, hE, fun j hj => ?_⟩
      rw [hc] at h1
      obtain ⟨_, _, hcell⟩ := World.cells?_some h1
      have := hcell j hj
      rw [add_add] at this
      rw [this]
      simp [List.getD, List.getElem?_eq_getElem (show j < (cells r).length by rw [hlen]; exact hj)])
    refine ⟨⟨some x, len, cap⟩, (List.range len).map R, hcs, .inr ⟨x, cap, by simp [Sl.val], by simpa using hl, hm, fun i hi j hj => ?_⟩, ?_⟩
    · simp at hi
      rw [(hR i (by omega)).2 j hj]
      simp [List.getD, hi]
    · intro r hr
      simp at hr
      obtain ⟨i, hi, rfl⟩ := hr
      exact (hR i (by omega)).1

theorem trod_structN2 {P : Program} {H : Type} {enc : TypeId × Value → H} {w : World} {base : Nat} {spare : Nat → Bool} {held : Bool} {t : TypeId} {f0 f1 : Field} {fuel : Nat} {cs : List Value} {x : DataW H × List MemPlace} (ht : P.underlying t = some (.struct #[f0, f1])) (h : DataW.trod enc P w base spare held fuel t cs = some x) :
    ∃ y0 y1 n, cs.length = P.cellsOf t ∧ DataW.trod enc P w base spare held n f0.type ((cs.drop f0.offset).take (P.cellsOf f0.type)) = some y0 ∧ DataW.trod enc P w base spare held n f1.type ((cs.drop f1.offset).take (P.cellsOf f1.type)) = some y1 := by
  obtain ⟨xs, n, _, rfl, hl, hlen, hf⟩ := DataW.trod_struct ht h
  match xs, hlen with
  | [y0, y1], _ => exact ⟨y0, y1, n, hl, by simpa using hf 0 f0 rfl, by simpa using hf 1 f1 rfl⟩

theorem trod_structN3 {P : Program} {H : Type} {enc : TypeId × Value → H} {w : World} {base : Nat} {spare : Nat → Bool} {held : Bool} {t : TypeId} {f0 f1 f2 : Field} {fuel : Nat} {cs : List Value} {x : DataW H × List MemPlace} (ht : P.underlying t = some (.struct #[f0, f1, f2])) (h : DataW.trod enc P w base spare held fuel t cs = some x) :
    ∃ y0 y1 y2 n, cs.length = P.cellsOf t ∧ DataW.trod enc P w base spare held n f0.type ((cs.drop f0.offset).take (P.cellsOf f0.type)) = some y0 ∧ DataW.trod enc P w base spare held n f1.type ((cs.drop f1.offset).take (P.cellsOf f1.type)) = some y1 ∧ DataW.trod enc P w base spare held n f2.type ((cs.drop f2.offset).take (P.cellsOf f2.type)) = some y2 := by
  obtain ⟨xs, n, _, rfl, hl, hlen, hf⟩ := DataW.trod_struct ht h
  match xs, hlen with
  | [y0, y1, y2], _ => exact ⟨y0, y1, y2, n, hl, by simpa using hf 0 f0 rfl, by simpa using hf 1 f1 rfl, by simpa using hf 2 f2 rfl⟩

theorem trod_structN5 {P : Program} {H : Type} {enc : TypeId × Value → H} {w : World} {base : Nat} {spare : Nat → Bool} {held : Bool} {t : TypeId} {f0 f1 f2 f3 f4 : Field} {fuel : Nat} {cs : List Value} {x : DataW H × List MemPlace} (ht : P.underlying t = some (.struct #[f0, f1, f2, f3, f4])) (h : DataW.trod enc P w base spare held fuel t cs = some x) :
    ∃ y0 y1 y2 y3 y4 n, cs.length = P.cellsOf t ∧ DataW.trod enc P w base spare held n f0.type ((cs.drop f0.offset).take (P.cellsOf f0.type)) = some y0 ∧ DataW.trod enc P w base spare held n f1.type ((cs.drop f1.offset).take (P.cellsOf f1.type)) = some y1 ∧ DataW.trod enc P w base spare held n f2.type ((cs.drop f2.offset).take (P.cellsOf f2.type)) = some y2 ∧ DataW.trod enc P w base spare held n f3.type ((cs.drop f3.offset).take (P.cellsOf f3.type)) = some y3 ∧ DataW.trod enc P w base spare held n f4.type ((cs.drop f4.offset).take (P.cellsOf f4.type)) = some y4 := by
  obtain ⟨xs, n, _, rfl, hl, hlen, hf⟩ := DataW.trod_struct ht h
  match xs, hlen with
  | [y0, y1, y2, y3, y4], _ => exact ⟨y0, y1, y2, y3, y4, n, hl, by simpa using hf 0 f0 rfl, by simpa using hf 1 f1 rfl, by simpa using hf 2 f2 rfl, by simpa using hf 3 f3 rfl, by simpa using hf 4 f4 rfl⟩

theorem trod_structN6 {P : Program} {H : Type} {enc : TypeId × Value → H} {w : World} {base : Nat} {spare : Nat → Bool} {held : Bool} {t : TypeId} {f0 f1 f2 f3 f4 f5 : Field} {fuel : Nat} {cs : List Value} {x : DataW H × List MemPlace} (ht : P.underlying t = some (.struct #[f0, f1, f2, f3, f4, f5])) (h : DataW.trod enc P w base spare held fuel t cs = some x) :
    ∃ y0 y1 y2 y3 y4 y5 n, cs.length = P.cellsOf t ∧ DataW.trod enc P w base spare held n f0.type ((cs.drop f0.offset).take (P.cellsOf f0.type)) = some y0 ∧ DataW.trod enc P w base spare held n f1.type ((cs.drop f1.offset).take (P.cellsOf f1.type)) = some y1 ∧ DataW.trod enc P w base spare held n f2.type ((cs.drop f2.offset).take (P.cellsOf f2.type)) = some y2 ∧ DataW.trod enc P w base spare held n f3.type ((cs.drop f3.offset).take (P.cellsOf f3.type)) = some y3 ∧ DataW.trod enc P w base spare held n f4.type ((cs.drop f4.offset).take (P.cellsOf f4.type)) = some y4 ∧ DataW.trod enc P w base spare held n f5.type ((cs.drop f5.offset).take (P.cellsOf f5.type)) = some y5 := by
  obtain ⟨xs, n, _, rfl, hl, hlen, hf⟩ := DataW.trod_struct ht h
  match xs, hlen with
  | [y0, y1, y2, y3, y4, y5], _ => exact ⟨y0, y1, y2, y3, y4, y5, n, hl, by simpa using hf 0 f0 rfl, by simpa using hf 1 f1 rfl, by simpa using hf 2 f2 rfl, by simpa using hf 3 f3 rfl, by simpa using hf 4 f4 rfl, by simpa using hf 5 f5 rfl⟩

theorem trod_structN11 {P : Program} {H : Type} {enc : TypeId × Value → H} {w : World} {base : Nat} {spare : Nat → Bool} {held : Bool} {t : TypeId} {f0 f1 f2 f3 f4 f5 f6 f7 f8 f9 f10 : Field} {fuel : Nat} {cs : List Value} {x : DataW H × List MemPlace} (ht : P.underlying t = some (.struct #[f0, f1, f2, f3, f4, f5, f6, f7, f8, f9, f10])) (h : DataW.trod enc P w base spare held fuel t cs = some x) :
    ∃ y0 y1 y2 y3 y4 y5 y6 y7 y8 y9 y10 n, cs.length = P.cellsOf t ∧ DataW.trod enc P w base spare held n f0.type ((cs.drop f0.offset).take (P.cellsOf f0.type)) = some y0 ∧ DataW.trod enc P w base spare held n f1.type ((cs.drop f1.offset).take (P.cellsOf f1.type)) = some y1 ∧ DataW.trod enc P w base spare held n f2.type ((cs.drop f2.offset).take (P.cellsOf f2.type)) = some y2 ∧ DataW.trod enc P w base spare held n f3.type ((cs.drop f3.offset).take (P.cellsOf f3.type)) = some y3 ∧ DataW.trod enc P w base spare held n f4.type ((cs.drop f4.offset).take (P.cellsOf f4.type)) = some y4 ∧ DataW.trod enc P w base spare held n f5.type ((cs.drop f5.offset).take (P.cellsOf f5.type)) = some y5 ∧ DataW.trod enc P w base spare held n f6.type ((cs.drop f6.offset).take (P.cellsOf f6.type)) = some y6 ∧ DataW.trod enc P w base spare held n f7.type ((cs.drop f7.offset).take (P.cellsOf f7.type)) = some y7 ∧ DataW.trod enc P w base spare held n f8.type ((cs.drop f8.offset).take (P.cellsOf f8.type)) = some y8 ∧ DataW.trod enc P w base spare held n f9.type ((cs.drop f9.offset).take (P.cellsOf f9.type)) = some y9 ∧ DataW.trod enc P w base spare held n f10.type ((cs.drop f10.offset).take (P.cellsOf f10.type)) = some y10 := by
  obtain ⟨xs, n, _, rfl, hl, hlen, hf⟩ := DataW.trod_struct ht h
  match xs, hlen with
  | [y0, y1, y2, y3, y4, y5, y6, y7, y8, y9, y10], _ => exact ⟨y0, y1, y2, y3, y4, y5, y6, y7, y8, y9, y10, n, hl, by simpa using hf 0 f0 rfl, by simpa using hf 1 f1 rfl, by simpa using hf 2 f2 rfl, by simpa using hf 3 f3 rfl, by simpa using hf 4 f4 rfl, by simpa using hf 5 f5 rfl, by simpa using hf 6 f6 rfl, by simpa using hf 7 f7 rfl, by simpa using hf 8 f8 rfl, by simpa using hf 9 f9 rfl, by simpa using hf 10 f10 rfl⟩


section
variable {H : Type} {enc : TypeId × Value → H} {w : World} {base : Nat} {spare : Nat → Bool} {held : Bool} {fuel : Nat} {cs : List Value} {x : DataW H × List MemPlace}

theorem ints_genW (h : DataW.trod enc Try.prog w base spare held fuel 26 cs = some x) : ∃ (s : Sl) (l : List Int), cs = [.slice s.a s.n s.c] ∧ Sees w .i64 s.val l ∧ ∀ n ∈ l, wide1 n := by
  rcases open_ints Try.underlying26 Try.underlying3 (by kernel_rfl) h with ⟨hcs, _⟩ | ⟨x, l, c, zs, hcs, _, hl, hm, hz, _, hcell, hwz⟩
  · exact ⟨⟨none, 0, 0⟩, [], hcs, Sees.nil _ _, by simp⟩
  · have hlz : l ≤ zs.length := by rw [hz]; split <;> omega
    have hlen : (zs.take l).length = l := by simp; omega
    refine ⟨⟨some x, l, c⟩, zs.take l, hcs, .inr ⟨x, c, by rw [hlen]; rfl, by omega, hm, fun i hi => ?_⟩, fun n hn => bounds_i64 (hwz n (List.mem_of_mem_take hn))⟩
    rw [hcell i (by omega)]
    simp [List.getD, List.getElem?_take_of_lt (show i < l by omega)]
theorem ints_gen (h : DataW.trod enc Try.prog w base spare held fuel 26 cs = some x) : ∃ (s : Sl) (l : List Int), cs = [.slice s.a s.n s.c] ∧ Sees w .i64 s.val l := by
  obtain ⟨s, l, a, b, _⟩ := ints_genW h
  exact ⟨s, l, a, b⟩

set_option maxRecDepth 100000 in
theorem open_cells_Rg (h : DataW.trod enc Try.prog w base spare held fuel 149 cs = some x) : ∃ r : Rg, cs = r.cells ∧ r.fit := by
  obtain ⟨y0, y1, y2, n, hl, h0, h1, h2⟩ := trod_structN3 Try.underlying149 h
  have hc : Try.prog.cellsOf 149 = 3 := by kernel_rfl
  have hi : Try.prog.cellsOf 3 = 1 := by kernel_rfl
  have hb : Try.prog.cellsOf 4 = 1 := by kernel_rfl
  rw [hc] at hl
  match cs, hl with
  | [c0, c1, c2], _ =>
    obtain ⟨a0, e0, _, w0⟩ := DataW.trod_int Try.underlying3 h0
    obtain ⟨a1, e1, _, w1⟩ := DataW.trod_int Try.underlying3 h1
    obtain ⟨a2, e2, _⟩ := DataW.trod_bool Try.underlying4 h2
    simp [hi] at e0 e1
    simp [hb] at e2
    subst e0 e1 e2
    obtain ⟨b0, b1⟩ := bounds_i64 w0
    obtain ⟨b2, b3⟩ := bounds_i64 w1
    exact ⟨⟨a0, a1, a2⟩, rfl, b0, b1, b2, b3⟩

set_option maxRecDepth 100000 in
theorem open_cells_Pc (h : DataW.trod enc Try.prog w base spare held fuel 60 cs = some x) : ∃ r : Pc, cs = r.cells ∧ r.wide := by
  obtain ⟨y0, y1, y2, y3, y4, n, hl, h0, h1, h2, h3, h4⟩ := trod_structN5 Try.underlying60 h
  have hc : Try.prog.cellsOf 60 = 5 := by kernel_rfl
  have hi : Try.prog.cellsOf 3 = 1 := by kernel_rfl
  have hb : Try.prog.cellsOf 4 = 1 := by kernel_rfl
  rw [hc] at hl
  match cs, hl with
  | [c0, c1, c2, c3, c4], _ =>
    obtain ⟨a0, e0, _, w0⟩ := DataW.trod_int Try.underlying3 h0
    obtain ⟨a1, e1, _, w1⟩ := DataW.trod_int Try.underlying3 h1
    obtain ⟨a2, e2, _, w2⟩ := DataW.trod_int Try.underlying3 h2
    obtain ⟨a3, e3, _, w3⟩ := DataW.trod_int Try.underlying3 h3
    obtain ⟨a4, e4, _⟩ := DataW.trod_bool Try.underlying4 h4
    simp [hi] at e0 e1 e2 e3
    simp [hb] at e4
    subst e0 e1 e2 e3 e4
    exact ⟨⟨a0, a1, a2, a3, a4⟩, rfl, bounds_i64 w0, bounds_i64 w1, bounds_i64 w2, bounds_i64 w3⟩

set_option maxRecDepth 100000 in
theorem open_cells_Bc (h : DataW.trod enc Try.prog w base spare held fuel 151 cs = some x) : ∃ r : Bc, cs = r.cells ∧ True := by
  obtain ⟨y0, y1, n, hl, h0, h1⟩ := trod_structN2 Try.underlying151 h
  have hc : Try.prog.cellsOf 151 = 2 := by kernel_rfl
  have hi : Try.prog.cellsOf 3 = 1 := by kernel_rfl
  have hb : Try.prog.cellsOf 4 = 1 := by kernel_rfl
  rw [hc] at hl
  match cs, hl with
  | [c0, c1], _ =>
    obtain ⟨a0, e0, _, w0⟩ := DataW.trod_int Try.underlying3 h0
    obtain ⟨a1, e1, _⟩ := DataW.trod_bool Try.underlying4 h1
    simp [hi] at e0
    simp [hb] at e1
    subst e0 e1
    exact ⟨⟨a0, a1⟩, rfl, trivial⟩

set_option maxRecDepth 100000 in
theorem open_cells_Sc (h : DataW.trod enc Try.prog w base spare held fuel 153 cs = some x) : ∃ r : Sc, cs = r.cells ∧ True := by
  obtain ⟨y0, y1, y2, n, hl, h0, h1, h2⟩ := trod_structN3 Try.underlying153 h
  have hc : Try.prog.cellsOf 153 = 3 := by kernel_rfl
  have hi : Try.prog.cellsOf 3 = 1 := by kernel_rfl
  have hb : Try.prog.cellsOf 4 = 1 := by kernel_rfl
  rw [hc] at hl
  match cs, hl with
  | [c0, c1, c2], _ =>
    obtain ⟨a0, e0, _, w0⟩ := DataW.trod_int Try.underlying3 h0
    obtain ⟨a1, e1, _, w1⟩ := DataW.trod_int Try.underlying3 h1
    obtain ⟨a2, e2, _⟩ := DataW.trod_bool Try.underlying4 h2
    simp [hi] at e0 e1
    simp [hb] at e2
    subst e0 e1 e2
    exact ⟨⟨a0, a1, a2⟩, rfl, trivial⟩

set_option maxRecDepth 100000 in
theorem open_cells_PtW (h : DataW.trod enc Try.prog w base spare held fuel 28 cs = some x) : ∃ r : Pv × Pt, cs = r.1.cells ∧ PtAt w r.1 r.2 ∧ (∀ g ∈ r.2.rg, g.fit) ∧ ∀ g ∈ r.2.pc, g.wide := by
  obtain ⟨y0, y1, y2, y3, y4, y5, y6, y7, y8, y9, y10, n, hl, h0, h1, h2, h3, h4, h5, h6, h7, h8, h9, h10⟩ := trod_structN11 Try.underlying28 h
  have hc : Try.prog.cellsOf 28 = 11 := by kernel_rfl
  have hi : Try.prog.cellsOf 3 = 1 := by kernel_rfl
  rw [hc] at hl
  match cs, hl with
  | [c0, c1, c2, c3, c4, c5, c6, c7, c8, c9, c10], _ =>
    obtain ⟨a0, e0, _, w0⟩ := DataW.trod_int Try.underlying3 h0
    simp [hi] at e0
    obtain ⟨s1, l1, e1, g1, k1⟩ := rows_gen Rg.zero Rg.cells 3 (fun r => r.fit) (fun r => rfl) Try.underlying22 (by kernel_rfl) (fun _ _ _ h => open_cells_Rg h) h1
    have hs1 : Try.prog.cellsOf 22 = 1 := by kernel_rfl
    simp [hs1] at e1
    obtain ⟨s2, l2, e2, g2, k2⟩ := rows_gen Pc.zero Pc.cells 5 (fun r => r.wide) (fun r => rfl) Try.underlying23 (by kernel_rfl) (fun _ _ _ h => open_cells_Pc h) h2
    have hs2 : Try.prog.cellsOf 23 = 1 := by kernel_rfl
    simp [hs2] at e2
    obtain ⟨a3, e3, _, w3⟩ := DataW.trod_int Try.underlying3 h3
    simp [hi] at e3
    obtain ⟨s4, l4, e4, g4, k4⟩ := rows_gen Bc.zero Bc.cells 2 (fun r => True) (fun r => rfl) Try.underlying24 (by kernel_rfl) (fun _ _ _ h => open_cells_Bc h) h4
    have hs4 : Try.prog.cellsOf 24 = 1 := by kernel_rfl
    simp [hs4] at e4
    obtain ⟨s5, l5, e5, g5, k5⟩ := rows_gen Sc.zero Sc.cells 3 (fun r => True) (fun r => rfl) Try.underlying25 (by kernel_rfl) (fun _ _ _ h => open_cells_Sc h) h5
    have hs5 : Try.prog.cellsOf 25 = 1 := by kernel_rfl
    simp [hs5] at e5
    obtain ⟨a6, e6, _, w6⟩ := DataW.trod_int Try.underlying3 h6
    simp [hi] at e6
    obtain ⟨s7, l7, e7, g7⟩ := ints_gen h7
    have hs7 : Try.prog.cellsOf 26 = 1 := by kernel_rfl
    simp [hs7] at e7
    obtain ⟨s8, l8, e8, g8⟩ := ints_gen h8
    have hs8 : Try.prog.cellsOf 26 = 1 := by kernel_rfl
    simp [hs8] at e8
    obtain ⟨a9, e9, _, w9⟩ := DataW.trod_int Try.underlying3 h9
    simp [hi] at e9
    obtain ⟨s10, l10, e10, g10⟩ := ints_gen h10
    have hs10 : Try.prog.cellsOf 26 = 1 := by kernel_rfl
    simp [hs10] at e10
    subst e0 e1 e2 e3 e4 e5 e6 e7 e8 e9 e10
    exact ⟨(⟨a0, s1, s2, a3, s4, s5, a6, s7, s8, a9, s10⟩, ⟨a0, l1, l2, a3, l4, l5, a6, l7, l8, a9, l10⟩), rfl, ⟨rfl, g1, g2, rfl, g4, g5, rfl, g7, g8, rfl, g10⟩, k1, k2⟩
theorem open_cells_Pt (h : DataW.trod enc Try.prog w base spare held fuel 28 cs = some x) : ∃ r : Pv × Pt, cs = r.1.cells ∧ PtAt w r.1 r.2 ∧ ∀ g ∈ r.2.rg, g.fit := by
  obtain ⟨r, a, b, c, _⟩ := open_cells_PtW h
  exact ⟨r, a, b, c⟩
end
end Go.Proofs.Ytdanfnbclbiidaa
