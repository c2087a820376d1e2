/-
  What waiters' First returns, whatever list it is given: the others are a list of the call's own.
-/
import Derived.Test.YtgnjnhfimagbpaaVAdd
namespace Go.Proofs.Ytgnjnhfimagbpaa
open Go.RowKit
set_option linter.unusedVariables false

theorem results_cell_row3 {P : Program} {fn : Func} {p u v : Tmp} {ty : TypeId} (h : fn.results = #[.cell p ty, .tmp u, .tmp v]) (tmps : Array Value) (w : World) (g : Nat) (t : TypeId) (cs : Array Value) (fr : Nat × Nat) (d : TypeDesc)
    (hp : tmps.getD p undef = .pointer (some ⟨g, 0, none⟩)) (hg : w.heap[g]? = some (.cells cs t fr))
    (hu : P.underlying ty = some d) (hd : (match d with | .struct _ | .array _ _ => true | _ => false) = true) (hi : (P.info? ty).map (·.size) = some cs.size) :
    (results fn tmps).run P w = .ok (.tuple #[.agg cs, tmps.getD u undef, tmps.getD v undef]) w := by
  have hp' : tmps[p]?.getD undef = .pointer (some ⟨g, 0, none⟩) := by simpa using hp
  simp [results, h, hp', asAddr, run_loadVar_row w g t ty cs fr d hg hu hd hi]
theorem Try.sizeWt : (Try.prog.info? 26).map (·.size) = some 3 := by kernel_rfl
theorem step_store_Wt {w : World} {ops : Array Oper} {o : Oper} {a : Act} {K : Act → World → Prop} {Q : Exit → Act → World → Prop} {E : Prop} (hgd : o.guard = none) (x y : Operand) (ho : o.op = .store 26 x y)
    (g : Nat) (hx : a.eval x = .pointer (some ⟨g, 0, none⟩)) (r : Wt) (hy : a.eval y = r.val) (old : Array Value) (hb : BoxAt w g 26 old) (hold : old.size = 3)
    (h : ∀ w', BoxAt w' g 26 r.cells.toArray → w.grownBy w' (some g) → K (a.put o.dst undef) w') :
    if Region.wanted o (yielded ops a.tmps) = true then Oper.wp Try.prog o a w K Q else E := by
  have hw : Region.wanted o (yielded ops a.tmps) = true := by simp [Region.wanted, hgd]
  rw [if_pos hw]
  refine wp_store_row 26 x y ho g r.cells.toArray hx hy 26 old hb (by rw [Try.sizeWt]; rfl) (by rw [hold]; rfl) (by simp [Wt.cells, Value.oneCell']) ?_
  exact h _ (setRow_heap w g old _ _ _ hb) ⟨rfl, rfl, rfl, by simp, fun j _ hj => setRow_other w g j _ (fun e => hj (by simp [e]))⟩

def firstV (l : List Wt) (u : Value) : Value := .tuple #[(l.getD 0 Wt.zero).val, u, .bool (decide (0 < l.length))]

end Go.Proofs.Ytgnjnhfimagbpaa
