/-
  A latch as an argument.
-/
import Derived.Test.YtdmdpfjnbifegaaLLaws1
import Derived.Deep.Strs
import Derived.RowKit
namespace Go.Proofs.Ytdmdpfjnbifegaa
open Go.RowKit Go.Deep Go.ChangeShapes Go.WideShapes
set_option linter.unusedVariables false

theorem Sees.of_row' {w : World} {k : IntKind} {x : Addr} {len cap : Nat} {zs : List Int} (hl : len ≤ cap) (hm : cap ≤ maxLen) (hz : len ≤ zs.length)
    (hc : ∀ i, i < zs.length → w.cell? (x.add i) = some (.int k (zs.getD i 0))) : Sees w k (.slice (some x) len cap) (zs.take len) := by
  have hlen : (zs.take len).length = len := by simp; omega
  refine .inr ⟨x, cap, by rw [hlen], by omega, hm, fun i hi => ?_⟩
  rw [hc i (by omega)]
  simp [List.getD, List.getElem?_take_of_lt (show i < len by omega)]

theorem open_cells_Lt {H : Type} {enc : TypeId × Value → H} {w : World} {base : Nat} {spare : Nat → Bool} {held : Bool} {fuel : Nat} {cs : List Value} {x : DataW H × List MemPlace}
    (h : DataW.trod enc Try.prog w base spare held fuel 24 cs = some x) : ∃ l : Lt, cs = [.int .i64 l.d, l.v, .int .i64 l.p] ∧ l.fit w := by
  obtain ⟨y0, y1, y2, n, _, hl, h0, h1, h2⟩ := trod_struct3 Try.underlying24 h
  have hc : Try.prog.cellsOf 24 = 3 := by kernel_rfl
  have hi : Try.prog.cellsOf 3 = 1 := by kernel_rfl
  have hb : Try.prog.cellsOf 22 = 1 := by kernel_rfl
  rw [hc] at hl
  match cs, hl with
  | [c0, c1, c2], _ =>
    simp [hi, hb] at h0 h1 h2
    obtain ⟨a, ea, _, wa⟩ := DataW.trod_int Try.underlying3 h0
    obtain ⟨b, eb, _, wb⟩ := DataW.trod_int Try.underlying3 h2
    simp at ea eb
    subst ea eb
    rcases open_ints Try.underlying22 Try.underlying3 (by kernel_rfl) h1 with ⟨hcs, _⟩ | ⟨x, l, c, zs, hcs, _, hl, hm, hz, _, hcell, hwz⟩
    · simp at hcs
      subst hcs
      exact ⟨⟨a, .slice none 0 0, b, []⟩, rfl, Sees.nil _ _, bounds_i64 wa, bounds_i64 wb⟩
    · simp at hcs
      subst hcs
      exact ⟨⟨a, .slice (some x) l c, b, zs.take l⟩, rfl, Sees.of_row' hl hm (by rw [hz]; split <;> omega) hcell, bounds_i64 wa, bounds_i64 wb⟩

theorem open_one_Lt {H : Type} {enc : TypeId × Value → H} {w : World} {v : Value} {d : DataW H} {p : List MemPlace} (hv : Value.okWide Try.prog w .any 0 24 v)
    (h : DataW.Trod enc Try.prog w 0 (fun _ => true) true 24 v d p) : ∃ l : Lt, v = l.val ∧ l.fit w := by
  obtain ⟨cs, rfl, _⟩ := okWide_struct Try.underlying24 hv
  obtain ⟨fuel, hf⟩ := h
  obtain ⟨r, hr, hfit⟩ := open_cells_Lt hf
  refine ⟨r, ?_, hfit⟩
  simp [Value.cells] at hr
  unfold Lt.val
  congr 1
  apply Array.toList_inj.1
  exact hr
end Go.Proofs.Ytdmdpfjnbifegaa
