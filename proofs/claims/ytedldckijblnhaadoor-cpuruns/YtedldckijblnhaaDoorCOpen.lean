/-
  Cores, instructions and regions as arguments.
-/
import Derived.Test.YtedldckijblnhaaDoorCSpec
import Derived.Deep.Strs
import Derived.RowKit
import Derived.Test.YtedldckijblnhaaDoorIReg
import Derived.Test.YtedldckijblnhaaDoorMReg
namespace Go.Proofs.YtedldckijblnhaaDoor
open Go.RowKit Go.Deep Go.ChangeShapes Go.WideShapes
set_option linter.unusedVariables false

theorem open_cells_Co {H : Type} {enc : TypeId × Value → H} {w : World} {base : Nat} {spare : Nat → Bool} {held : Bool} {fuel : Nat} {cs : List Value} {x : DataW H × List MemPlace}
    (h : DataW.trod enc Tryd.prog w base spare held fuel 25 cs = some x) : ∃ c : Co, cs = [.int .i64 c.p, .int .i64 c.r0, .int .i64 c.r1, .int .i64 c.r2, .int .i64 c.r3] ∧ c.fit := by
  obtain ⟨y0, y1, n, _, hl, h0, h1⟩ := trod_struct2 Tryd.underlying25 h
  have hc : Tryd.prog.cellsOf 25 = 5 := by kernel_rfl
  have hi : Tryd.prog.cellsOf 3 = 1 := by kernel_rfl
  have ha : Tryd.prog.cellsOf 23 = 4 := by kernel_rfl
  rw [hc] at hl
  match cs, hl with
  | [c0, c1, c2, c3, c4], _ =>
    simp only [hi, ha] at h0 h1
    obtain ⟨a, ea, _, wa⟩ := DataW.trod_int Tryd.underlying3 h0
    obtain ⟨xs, m, _, _, _, hlen, hx⟩ := DataW.trod_array Tryd.underlying23 h1
    have get : ∀ i, i < 4 → ∃ r, xs[i]? = some r := fun i hi => ⟨xs[i], List.getElem?_eq_getElem (by omega)⟩
    simp only [hi] at hx
    obtain ⟨g0, e0⟩ := get 0 (by omega)
    obtain ⟨g1, e1⟩ := get 1 (by omega)
    obtain ⟨g2, e2⟩ := get 2 (by omega)
    obtain ⟨g3, e3⟩ := get 3 (by omega)
    have x0 := hx 0 (by omega)
    have x1 := hx 1 (by omega)
    have x2 := hx 2 (by omega)
    have x3 := hx 3 (by omega)
    rw [e0] at x0
    rw [e1] at x1
    rw [e2] at x2
    rw [e3] at x3
    obtain ⟨b0, f0, _, w0⟩ := DataW.trod_int Tryd.underlying3 x0
    obtain ⟨b1, f1, _, w1⟩ := DataW.trod_int Tryd.underlying3 x1
    obtain ⟨b2, f2, _, w2⟩ := DataW.trod_int Tryd.underlying3 x2
    obtain ⟨b3, f3, _, w3⟩ := DataW.trod_int Tryd.underlying3 x3
    simp at ea f0 f1 f2 f3
    subst ea f0 f1 f2 f3
    exact ⟨⟨a, b0, b1, b2, b3⟩, rfl, bounds_i64 wa, bounds_i64 w0, bounds_i64 w1, bounds_i64 w2, bounds_i64 w3⟩

theorem open_one_Co {H : Type} {enc : TypeId × Value → H} {w : World} {v : Value} {d : DataW H} {p : List MemPlace} (hv : Value.okWide Tryd.prog w .any 0 25 v)
    (h : DataW.Trod enc Tryd.prog w 0 (fun _ => true) true 25 v d p) : ∃ r : Co, v = r.val ∧ r.fit := by
  obtain ⟨cs, rfl, _⟩ := okWide_struct Tryd.underlying25 hv
  obtain ⟨fuel, hf⟩ := h
  obtain ⟨r, hr, hfit⟩ := open_cells_Co hf
  refine ⟨r, ?_, hfit⟩
  simp [Value.cells] at hr
  unfold Co.val
  congr 1
  apply Array.toList_inj.1
  exact hr

theorem open_cells_In {H : Type} {enc : TypeId × Value → H} {w : World} {base : Nat} {spare : Nat → Bool} {held : Bool} {fuel : Nat} {cs : List Value} {x : DataW H × List MemPlace}
    (h : DataW.trod enc Tryd.prog w base spare held fuel 44 cs = some x) : ∃ r : In, cs = r.cells ∧ r.fit := by
  obtain ⟨y0, y1, y2, n, _, hl, h0, h1, h2⟩ := trod_struct3 Tryd.underlying44 h
  have hc : Tryd.prog.cellsOf 44 = 3 := by kernel_rfl
  have hi : Tryd.prog.cellsOf 3 = 1 := by kernel_rfl
  rw [hc] at hl
  match cs, hl with
  | [c0, c1, c2], _ =>
    obtain ⟨a, ea, _, wa⟩ := DataW.trod_int Tryd.underlying3 h0
    obtain ⟨b, eb, _, wb⟩ := DataW.trod_int Tryd.underlying3 h1
    obtain ⟨c, ec, _, wc⟩ := DataW.trod_int Tryd.underlying3 h2
    simp [hi] at ea eb ec
    subst ea eb ec
    obtain ⟨a1, a2⟩ := bounds_i64 wa
    obtain ⟨b1, b2⟩ := bounds_i64 wb
    obtain ⟨c1, c2⟩ := bounds_i64 wc
    exact ⟨⟨a, b, c⟩, rfl, a1, a2, b1, b2, c1, c2⟩

theorem open_one_In {H : Type} {enc : TypeId × Value → H} {w : World} {v : Value} {d : DataW H} {p : List MemPlace} (hv : Value.okWide Tryd.prog w .any 0 44 v)
    (h : DataW.Trod enc Tryd.prog w 0 (fun _ => true) true 44 v d p) : ∃ r : In, v = r.val ∧ r.fit := by
  obtain ⟨cs, rfl, _⟩ := okWide_struct Tryd.underlying44 hv
  obtain ⟨fuel, hf⟩ := h
  obtain ⟨r, hr, hfit⟩ := open_cells_In hf
  refine ⟨r, ?_, hfit⟩
  simp [Value.cells] at hr
  unfold In.val
  congr 1
  apply Array.toList_inj.1
  exact hr

theorem open_rows_In {H : Type} {enc : TypeId × Value → H} {w : World} {a : Option Addr} {len cap : Nat} {d : DataW H} {p : List MemPlace}
    (h : DataW.Trod enc Tryd.prog w 0 (fun _ => true) true 22 (.slice a len cap) d p) : ∃ l : List In, SeesI w (.slice a len cap) l ∧ ∀ r ∈ l, r.fit := by
  obtain ⟨fuel, hf⟩ := h
  have hc : Tryd.prog.cellsOf 44 = 3 := by kernel_rfl
  rcases open_slice Tryd.underlying22 hf with ⟨hcs, _⟩ | ⟨x, len', cap', m, n, D, Pl, hcs, _, hl, hm, hmm, _, hx⟩
  · simp [Value.cells] at hcs
    obtain ⟨rfl, rfl, rfl⟩ := hcs
    exact ⟨[], SeesI.nil _, by simp⟩
  · simp [Value.cells] at hcs
    obtain ⟨rfl, rfl, rfl⟩ := hcs
    simp at hmm
    subst hmm
    have hin : Inhabited In := ⟨In.zero⟩
    obtain ⟨R, hR⟩ := choose_lt (α := In) (n := m) (p := fun i r => r.fit ∧ ∀ j, j < 3 → w.cell? (x.add (i * 3 + j)) = some (r.cells.getD j .nilIface)) (fun i hi => by
      obtain ⟨cs', h1, h2⟩ := hx i hi
      obtain ⟨r, rfl, hfit⟩ := open_cells_In h2
      refine ⟨r, hfit, fun j hj => ?_⟩
      rw [hc] at h1
      obtain ⟨_, _, hcell⟩ := World.cells?_some h1
      have := hcell j hj
      rw [add_add] at this
      rw [this]
      match j, hj with
      | 0, _ => rfl
      | 1, _ => rfl
      | 2, _ => rfl)
    refine ⟨(List.range len).map R, .inr ⟨x, m, by simp, by simpa using hl, hm, fun i hi j hj => ?_⟩, ?_⟩
    · simp at hi
      rw [(hR i (by omega)).2 j hj]
      simp [List.getD, hi]
    · intro r hr
      simp at hr
      obtain ⟨i, hi, rfl⟩ := hr
      exact (hR i (by omega)).1

theorem open_cells_Rg {H : Type} {enc : TypeId × Value → H} {w : World} {base : Nat} {spare : Nat → Bool} {held : Bool} {fuel : Nat} {cs : List Value} {x : DataW H × List MemPlace}
    (h : DataW.trod enc Tryd.prog w base spare held fuel 50 cs = some x) : ∃ r : Rg, cs = r.cells ∧ r.fit := by
  obtain ⟨y0, y1, y2, n, _, hl, h0, h1, h2⟩ := trod_struct3 Tryd.underlying50 h
  have hc : Tryd.prog.cellsOf 50 = 3 := by kernel_rfl
  have hi : Tryd.prog.cellsOf 3 = 1 := by kernel_rfl
  have hb : Tryd.prog.cellsOf 4 = 1 := by kernel_rfl
  rw [hc] at hl
  match cs, hl with
  | [c0, c1, c2], _ =>
    obtain ⟨a, ea, _, wa⟩ := DataW.trod_int Tryd.underlying3 h0
    obtain ⟨b, eb, _, wb⟩ := DataW.trod_int Tryd.underlying3 h1
    obtain ⟨c, ec, _⟩ := DataW.trod_bool Tryd.underlying4 h2
    simp [hi, hb] at ea eb ec
    subst ea eb ec
    obtain ⟨a1, a2⟩ := bounds_i64 wa
    obtain ⟨b1, b2⟩ := bounds_i64 wb
    exact ⟨⟨a, b, c⟩, rfl, a1, a2, b1, b2⟩

theorem open_one_Rg {H : Type} {enc : TypeId × Value → H} {w : World} {v : Value} {d : DataW H} {p : List MemPlace} (hv : Value.okWide Tryd.prog w .any 0 50 v)
    (h : DataW.Trod enc Tryd.prog w 0 (fun _ => true) true 50 v d p) : ∃ r : Rg, v = r.val ∧ r.fit := by
  obtain ⟨cs, rfl, _⟩ := okWide_struct Tryd.underlying50 hv
  obtain ⟨fuel, hf⟩ := h
  obtain ⟨r, hr, hfit⟩ := open_cells_Rg hf
  refine ⟨r, ?_, hfit⟩
  simp [Value.cells] at hr
  unfold Rg.val
  congr 1
  apply Array.toList_inj.1
  exact hr

theorem open_rows_Rg {H : Type} {enc : TypeId × Value → H} {w : World} {a : Option Addr} {len cap : Nat} {d : DataW H} {p : List MemPlace}
    (h : DataW.Trod enc Tryd.prog w 0 (fun _ => true) true 27 (.slice a len cap) d p) : ∃ l : List Rg, SeesR w (.slice a len cap) l ∧ ∀ r ∈ l, r.fit := by
  obtain ⟨fuel, hf⟩ := h
  have hc : Tryd.prog.cellsOf 50 = 3 := by kernel_rfl
  rcases open_slice Tryd.underlying27 hf with ⟨hcs, _⟩ | ⟨x, len', cap', m, n, D, Pl, hcs, _, hl, hm, hmm, _, hx⟩
  · simp [Value.cells] at hcs
    obtain ⟨rfl, rfl, rfl⟩ := hcs
    exact ⟨[], SeesR.nil _, by simp⟩
  · simp [Value.cells] at hcs
    obtain ⟨rfl, rfl, rfl⟩ := hcs
    simp at hmm
    subst hmm
    have hin : Inhabited Rg := ⟨Rg.zero⟩
    obtain ⟨R, hR⟩ := choose_lt (α := Rg) (n := m) (p := fun i r => r.fit ∧ ∀ j, j < 3 → w.cell? (x.add (i * 3 + j)) = some (r.cells.getD j .nilIface)) (fun i hi => by
      obtain ⟨cs', h1, h2⟩ := hx i hi
      obtain ⟨r, rfl, hfit⟩ := open_cells_Rg h2
      refine ⟨r, hfit, fun j hj => ?_⟩
      rw [hc] at h1
      obtain ⟨_, _, hcell⟩ := World.cells?_some h1
      have := hcell j hj
      rw [add_add] at this
      rw [this]
      match j, hj with
      | 0, _ => rfl
      | 1, _ => rfl
      | 2, _ => rfl)
    refine ⟨(List.range len).map R, .inr ⟨x, m, by simp, by simpa using hl, hm, fun i hi j hj => ?_⟩, ?_⟩
    · simp at hi
      rw [(hR i (by omega)).2 j hj]
      simp [List.getD, hi]
    · intro r hr
      simp at hr
      obtain ⟨i, hi, rfl⟩ := hr
      exact (hR i (by omega)).1
end Go.Proofs.YtedldckijblnhaaDoor
