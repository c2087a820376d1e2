/-
  Processes as arguments.
-/
import Derived.Test.YtdanfnbclbiidaaRows
import Derived.Test.YtdanfnbclbiidaaPReg
import Derived.Deep.Strs
import Derived.RowKit
namespace Go.Proofs.Ytdanfnbclbiidaa
open Go.RowKit Go.Deep Go.ChangeShapes Go.WideShapes
set_option linter.unusedVariables false

section
variable {H : Type} {enc : TypeId × Value → H} {w : World} {base : Nat} {spare : Nat → Bool} {held : Bool} {fuel : Nat} {cs : List Value} {x : DataW H × List MemPlace}

theorem popen_int (h : DataW.trod enc Try.prog w base spare held fuel 3 cs = some x) : ∃ a, cs = [.int .i64 a] ∧ wideP a := by
  obtain ⟨a, ea, _, wa⟩ := DataW.trod_int Try.underlying3 h
  exact ⟨a, ea, bounds_i64 wa⟩
theorem popen_bool (h : DataW.trod enc Try.prog w base spare held fuel 4 cs = some x) : ∃ a, cs = [.bool a] := by
  obtain ⟨a, ea, _⟩ := DataW.trod_bool Try.underlying4 h
  exact ⟨a, ea⟩

set_option maxRecDepth 100000 in
theorem popen_core (h : DataW.trod enc Try.prog w base spare held fuel 55 cs = some x) : ∃ a b0 b1 b2 b3, cs = [.int .i64 a, .int .i64 b0, .int .i64 b1, .int .i64 b2, .int .i64 b3] ∧ wideP a ∧ wideP b0 ∧ wideP b1 ∧ wideP b2 ∧ wideP b3 := by
  obtain ⟨y0, y1, n, _, hl, h0, h1⟩ := trod_struct2 Try.underlying55 h
  have hc : Try.prog.cellsOf 55 = 5 := by kernel_rfl
  have hi : Try.prog.cellsOf 3 = 1 := by kernel_rfl
  have ha : Try.prog.cellsOf 53 = 4 := by kernel_rfl
  rw [hc] at hl
  match cs, hl with
  | [c0, c1, c2, c3, c4], _ =>
    simp only [hi, ha] at h0 h1
    obtain ⟨a, ea, wa⟩ := popen_int h0
    obtain ⟨xs, m, _, _, _, hlen, hx⟩ := DataW.trod_array Try.underlying53 h1
    have get : ∀ i, i < 4 → ∃ r, xs[i]? = some r := fun i hi => ⟨xs[i], List.getElem?_eq_getElem (by omega)⟩
    simp only [hi] at hx
    obtain ⟨g0, e0⟩ := get 0 (by omega)
    obtain ⟨g1, e1⟩ := get 1 (by omega)
    obtain ⟨g2, e2⟩ := get 2 (by omega)
    obtain ⟨g3, e3⟩ := get 3 (by omega)
    have x0 := hx 0 (by omega)
    have x1 := hx 1 (by omega)
    have x2 := hx 2 (by omega)
    have x3 := hx 3 (by omega)
    rw [e0] at x0
    rw [e1] at x1
    rw [e2] at x2
    rw [e3] at x3
    obtain ⟨b0, f0, w0⟩ := popen_int x0
    obtain ⟨b1, f1, w1⟩ := popen_int x1
    obtain ⟨b2, f2, w2⟩ := popen_int x2
    obtain ⟨b3, f3, w3⟩ := popen_int x3
    simp at ea f0 f1 f2 f3
    subst ea f0 f1 f2 f3
    exact ⟨a, b0, b1, b2, b3, rfl, wa, w0, w1, w2, w3⟩

set_option maxRecDepth 100000 in
theorem open_cells_Px (h : DataW.trod enc Try.prog w base spare held fuel 57 cs = some x) : ∃ r : Px, cs = r.cells ∧ r.fit := by
  obtain ⟨xs, n, _, rfl, hl, hlen, hf⟩ := DataW.trod_struct Try.underlying57 h
  have hc : Try.prog.cellsOf 57 = 18 := by kernel_rfl
  have hi : Try.prog.cellsOf 3 = 1 := by kernel_rfl
  have hb : Try.prog.cellsOf 4 = 1 := by kernel_rfl
  have hk : Try.prog.cellsOf 55 = 5 := by kernel_rfl
  rw [hc] at hl
  match xs, hlen with
  | [y0, y1, y2, y3, y4, y5, y6, y7, y8, y9, y10, y11, y12, y13], _ =>
    have h0 := hf 0 _ rfl
    have h1 := hf 1 _ rfl
    have h2 := hf 2 _ rfl
    have h3 := hf 3 _ rfl
    have h4 := hf 4 _ rfl
    have h5 := hf 5 _ rfl
    have h6 := hf 6 _ rfl
    have h7 := hf 7 _ rfl
    have h8 := hf 8 _ rfl
    have h9 := hf 9 _ rfl
    have h10 := hf 10 _ rfl
    have h11 := hf 11 _ rfl
    have h12 := hf 12 _ rfl
    have h13 := hf 13 _ rfl
    clear hf
    match cs, hl with
    | [c0, c1, c2, c3, c4, c5, c6, c7, c8, c9, c10, c11, c12, c13, c14, c15, c16, c17], _ =>
      simp [hi] at h0
      simp [hi] at h1
      simp [hb] at h2
      simp [hk] at h3
      simp [hi] at h4
      simp [hi] at h5
      simp [hi] at h6
      simp [hi] at h7
      simp [hi] at h8
      simp [hi] at h9
      simp [hb] at h10
      simp [hi] at h11
      simp [hi] at h12
      simp [hi] at h13
      obtain ⟨a0, e0, w0⟩ := popen_int h0
      obtain ⟨a1, e1, w1⟩ := popen_int h1
      obtain ⟨a2, e2⟩ := popen_bool h2
      obtain ⟨b0, b1, b2, b3, b4, e3, u0, u1, u2, u3, u4⟩ := popen_core h3
      obtain ⟨a4, e4, w4⟩ := popen_int h4
      obtain ⟨a5, e5, w5⟩ := popen_int h5
      obtain ⟨a6, e6, w6⟩ := popen_int h6
      obtain ⟨a7, e7, w7⟩ := popen_int h7
      obtain ⟨a8, e8, w8⟩ := popen_int h8
      obtain ⟨a9, e9, w9⟩ := popen_int h9
      obtain ⟨a10, e10⟩ := popen_bool h10
      obtain ⟨a11, e11, w11⟩ := popen_int h11
      obtain ⟨a12, e12, w12⟩ := popen_int h12
      obtain ⟨a13, e13, w13⟩ := popen_int h13
      simp at e0 e1 e2 e3 e4 e5 e6 e7 e8 e9 e10 e11 e12 e13
      obtain ⟨q0, q1, q2, q3, q4⟩ := e3
      subst e0 e1 e2 e4 e5 e6 e7 e8 e9 e10 e11 e12 e13 q0 q1 q2 q3 q4
      exact ⟨⟨a0, a1, a2, b0, b1, b2, b3, b4, a4, a5, a6, a7, a8, a9, a10, a11, a12, a13⟩, rfl, w0, w1, u0, u1, u2, u3, u4, w4, w5, w6, w7, w8, w9, w11, w12, w13⟩

end

set_option maxRecDepth 100000 in
theorem open_one_Px {H : Type} {enc : TypeId × Value → H} {w : World} {v : Value} {d : DataW H} {p : List MemPlace} (hv : Value.okWide Try.prog w .any 0 57 v)
    (h : DataW.Trod enc Try.prog w 0 (fun _ => true) true 57 v d p) : ∃ r : Px, v = r.val ∧ r.fit := by
  obtain ⟨cs, rfl, _⟩ := okWide_struct Try.underlying57 hv
  obtain ⟨fuel, hf⟩ := h
  obtain ⟨r, hr, hfit⟩ := open_cells_Px hf
  refine ⟨r, ?_, hfit⟩
  simp [Value.cells] at hr
  unfold Px.val
  congr 1
  apply Array.toList_inj.1
  exact hr

set_option maxRecDepth 100000 in
theorem open_rows_Px {H : Type} {enc : TypeId × Value → H} {w : World} {a : Option Addr} {len cap : Nat} {d : DataW H} {p : List MemPlace}
    (h : DataW.Trod enc Try.prog w 0 (fun _ => true) true 29 (.slice a len cap) d p) : ∃ l : List Px, SeesPx w (.slice a len cap) l ∧ ∀ r ∈ l, r.fit := by
  obtain ⟨fuel, hf⟩ := h
  have hc : Try.prog.cellsOf 57 = 18 := by kernel_rfl
  rcases open_slice Try.underlying29 hf with ⟨hcs, _⟩ | ⟨x, len', cap', m, n, D, Pl, hcs, _, hl, hm, hmm, _, hx⟩
  · simp [Value.cells] at hcs
    obtain ⟨rfl, rfl, rfl⟩ := hcs
    exact ⟨[], SeesPx.nil _, by simp⟩
  · simp [Value.cells] at hcs
    obtain ⟨rfl, rfl, rfl⟩ := hcs
    simp at hmm
    subst hmm
    have hin : Inhabited Px := ⟨Px.zero⟩
    obtain ⟨R, hR⟩ := choose_lt (α := Px) (n := m) (p := fun i r => r.fit ∧ ∀ j, j < 18 → w.cell? (x.add (i * 18 + j)) = some (r.cells.getD j .nilIface)) (fun i hi => by
      obtain ⟨cs', h1, h2⟩ := hx i hi
      obtain ⟨r, rfl, hfit⟩ := open_cells_Px h2
      refine ⟨r, hfit, fun j hj => ?_⟩
      rw [hc] at h1
      obtain ⟨_, _, hcell⟩ := World.cells?_some h1
      have := hcell j hj
      rw [add_add] at this
      rw [this]
      have hlen : r.cells.length = 18 := rfl
      simp [List.getD, List.getElem?_eq_getElem (show j < r.cells.length by rw [hlen]; exact hj)])
    refine ⟨(List.range len).map R, .inr ⟨x, m, by simp, by simpa using hl, hm, fun i hi j hj => ?_⟩, ?_⟩
    · simp at hi
      rw [(hR i (by omega)).2 j hj]
      simp [List.getD, hi]
    · intro r hr
      simp at hr
      obtain ⟨i, hi, rfl⟩ := hr
      exact (hR i (by omega)).1
end Go.Proofs.Ytdanfnbclbiidaa
