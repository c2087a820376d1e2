/-
  The two tables: what the condition on the listed variables gives the walks.
-/
import Derived.Test.YtedldckijblnhaaDoorIMay
import Derived.LaidMore
import Derived.OpenShut
import Derived.ChangeSame
import Derived.RowKit
namespace Go.Proofs.YtedldckijblnhaaDoor
open Go.RowKit Go.ChangeShapes Go.WideShapes
set_option linter.unusedVariables false

def pairs {H : Type} (zs : List (Int × Int)) : DataW H := .agg (zs.map fun z => .agg [.lit (.int .i64 z.1), .lit (.int .i64 z.2)])
def takesZ : List (Int × Int) := (List.range 20).map fun o => ((rowA o : Int), (rowB o : Int))
def spansZ : List (Int × Int) := (List.range 5).map fun r => (rowLo r, rowHi r)

theorem cells_of_pairs {H : Type} {enc : TypeId × Value → H} {P : Program} {w : World} {base : Nat} {sp : Nat → Bool} {held : Bool} {fuel : Nat} {t e k : TypeId} {n : Nat} {f0 f1 : Field} {cs : List Value} {zs : List (Int × Int)} {p : List MemPlace}
    (ht : P.underlying t = some (.array n e)) (he : P.underlying e = some (.struct #[f0, f1])) (hk : P.underlying k = some (.int .i64)) (hck : P.cellsOf k = 1) (hce : P.cellsOf e = 2)
    (h0 : f0.type = k) (h1 : f1.type = k) (o0 : f0.offset = 0) (o1 : f1.offset = 1)
    (h : DataW.trod enc P w base sp held fuel t cs = some (pairs zs, p)) : ∀ i, i < n → cs[i * 2]? = some (.int .i64 (zs.getD i (0, 0)).1) ∧ cs[i * 2 + 1]? = some (.int .i64 (zs.getD i (0, 0)).2) := by
  obtain ⟨xs, m, _, hx, hl, hn, hel⟩ := DataW.trod_array ht h
  intro i hi
  have hxs : xs.map (·.1) = zs.map fun z => (DataW.agg [.lit (.int .i64 z.1), .lit (.int .i64 z.2)] : DataW H) := by
    have := congrArg Prod.fst hx
    simpa [pairs] using this.symm
  have hi2 : i < xs.length := by omega
  have h2 := hel i hi
  rw [hce, List.getElem?_eq_getElem hi2] at h2
  obtain ⟨y0, y1, m', e2, hl2, g0, g1⟩ := trod_struct2 he h2
  rw [h0, o0, hck] at g0
  rw [h1, o1, hck] at g1
  obtain ⟨a, ea, da, _⟩ := DataW.trod_int hk g0
  obtain ⟨b, eb, db, _⟩ := DataW.trod_int hk g1
  have hz : i < zs.length := by have := congrArg List.length hxs; simp at this; omega
  have h3 : (xs.map (·.1))[i]? = some (DataW.agg [.lit (.int .i64 a), .lit (.int .i64 b)] : DataW H) := by
    rw [List.getElem?_map, List.getElem?_eq_getElem hi2, e2]
    simp [da, db]
  rw [hxs, List.getElem?_map, List.getElem?_eq_getElem hz] at h3
  simp only [Option.map_some, Option.some.injEq, DataW.agg.injEq, List.cons.injEq, DataW.lit.injEq, Lit.int.injEq, true_and, and_true] at h3
  have hg : zs.getD i (0, 0) = zs[i] := by simp [List.getD, List.getElem?_eq_getElem hz]
  rw [hg, h3.1, h3.2]
  constructor
  · have := congrArg (·[0]?) ea
    simpa [List.getElem?_take, List.getElem?_drop] using this
  · have := congrArg (·[0]?) eb
    simpa [List.getElem?_take, List.getElem?_drop] using this

theorem Tryd.gTakes : Tryd.prog.globalNamed "quarterdeck/instr.takes" = some 0 := by kernel_rfl
theorem Tryd.gSpans : Tryd.prog.globalNamed "quarterdeck/instr.spans" = some 1 := by kernel_rfl
theorem Tryd.tTakes : (Tryd.prog.globals[(0 : Nat)]?).map (·.type) = some 84 := by kernel_rfl
theorem Tryd.tSpans : (Tryd.prog.globals[(1 : Nat)]?).map (·.type) = some 91 := by kernel_rfl

theorem laid_takes : (Rows.laid_quarterdeck_instr_takes : DataW Unit) = pairs takesZ := by kernel_rfl
theorem laid_spans : (Rows.laid_quarterdeck_instr_spans : DataW Unit) = pairs spansZ := by kernel_rfl

/-- The row's condition gives the two tables. -/
theorem laid_of {W : World} (h : laidMetH Tryd.prog [("quarterdeck/instr.spans", Rows.laid_quarterdeck_instr_spans), ("quarterdeck/instr.takes", Rows.laid_quarterdeck_instr_takes)] W) : Laid W := by
  rw [MakeChecks.laidMetH_plain _ _ _ (by kernel_rfl)] at h
  rw [laid_takes, laid_spans] at h
  obtain ⟨ps, ⟨g0, t0, cs0, f0, p0, q0, hg0, ht0, hv0, hd0, ⟨g1, t1, cs1, f1, p1, q1, hg1, ht1, hv1, hd1, _, _⟩, _⟩, _, _⟩ := h
  obtain rfl := Option.some.inj (Tryd.gSpans.symm.trans hg0)
  obtain rfl := Option.some.inj (Tryd.gTakes.symm.trans hg1)
  obtain rfl := Option.some.inj (Tryd.tSpans.symm.trans ht0)
  obtain rfl := Option.some.inj (Tryd.tTakes.symm.trans ht1)
  have hs := cells_of_pairs Tryd.underlying91 Tryd.underlying90 Tryd.underlying3 (by kernel_rfl) (by kernel_rfl) rfl rfl rfl rfl hd0
  have ht := cells_of_pairs Tryd.underlying84 Tryd.underlying83 Tryd.underlying3 (by kernel_rfl) (by kernel_rfl) rfl rfl rfl rfl hd1
  have cs (i : Nat) := World.var?_cell hg0 hv0 i
  have ct (i : Nat) := World.var?_cell hg1 hv1 i
  have hS : ∀ r, r < 5 → W.cell? ⟨1, r * 2, none⟩ = some (.int .i64 (rowLo r)) ∧ W.cell? ⟨1, r * 2 + 1, none⟩ = some (.int .i64 (rowHi r)) := by
    intro r hr
    have h1 := hs r hr
    have h2 : spansZ.getD r (0, 0) = (rowLo r, rowHi r) := by simp [spansZ, List.getD, hr]
    rw [h2] at h1
    constructor
    · rw [cs]; simpa using h1.1
    · rw [cs]; simpa using h1.2
  have hT : ∀ o, o < 20 → W.cell? ⟨0, o * 2, none⟩ = some (.int .i64 (rowA o)) ∧ W.cell? ⟨0, o * 2 + 1, none⟩ = some (.int .i64 (rowB o)) := by
    intro r hr
    have h1 := ht r hr
    have h2 : takesZ.getD r (0, 0) = ((rowA r : Int), (rowB r : Int)) := by simp [takesZ, List.getD, hr]
    rw [h2] at h1
    constructor
    · rw [ct]; simpa using h1.1
    · rw [ct]; simpa using h1.2
  exact ⟨World.block_lt_of_cell? W _ (hT 0 (by omega)).1, World.block_lt_of_cell? W _ (hS 0 (by omega)).1, hT, hS⟩
end Go.Proofs.YtedldckijblnhaaDoor
