/-
  General steps over objects with lists of those who wait: a wake as a literal, results of four, the first of a list by cases, what a method leaves that is given an address.
-/
import Derived.Test.YtgnjnhfimagbpaaBLib
import Derived.Test.YtgnjnhfimagbpaaVFirst
import Derived.Test.YtgnjnhfimagbpaaVRefFirst
import Derived.Test.YtgnjnhfimagbpaaVRef2
namespace Go.Proofs.Ytgnjnhfimagbpaa
open Go.RowKit
set_option linter.unusedVariables false

theorem wrapi_id (x : Int) (h1 : -9223372036854775808 ≤ x) (h2 : x ≤ 9223372036854775807) : IntKind.i64.wrap x = x := by rw [IntKind.wrap_i64]; omega

theorem wrap64_id (x : Int) (h1 : -9223372036854775808 ≤ x) (h2 : x ≤ 9223372036854775807) : wrap64 x = x := by unfold wrap64; omega

theorem OWk.sl {w : World} {base : Nat} {v : Value} {l : List Wk} (h : OWk w base v l) : ∃ s : Sl, v = .slice s.a s.n s.c ∧ s.n = l.length ∧ s.n ≤ s.c ∧ s.c ≤ 9223372036854775807 := by
  rcases h.2 with ⟨h, h0⟩ | ⟨g, cap, cur, h, hb, hg, hnc, hcm, _⟩
  · exact ⟨⟨none, 0, 0⟩, by rw [h], by rw [h0], by simp, by simp⟩
  · exact ⟨⟨_, _, cap⟩, h, rfl, hnc, hcm⟩

theorem OWt.n {w : World} {base : Nat} {s : Sl} {l : List Wt} (h : OWt w base s.val l) : s.n = l.length := by
  obtain ⟨r, h1, h2, _⟩ := h.sl
  have : s.n = r.n := by
    unfold Sl.val at h1
    injection h1
  omega

theorem OWk.n {w : World} {base : Nat} {s : Sl} {l : List Wk} (h : OWk w base s.val l) : s.n = l.length := by
  obtain ⟨r, h1, h2, _⟩ := h.sl
  have : s.n = r.n := by
    unfold Sl.val at h1
    injection h1
  omega

theorem OWk.box {w : World} {base g : Nat} {r : Wk} (h : BoxAt w g 42 r.cells.toArray) (hb : base ≤ g) : OWk w base (.slice (some ⟨g, 0, none⟩) 1 1) [r] :=
  ⟨rfl, .inr ⟨g, 1, _, rfl, hb, h, Nat.le_refl _, by unfold maxLen; decide, rfl, by simp [Wk.cells]⟩⟩

theorem wpList_litk {ops : Array Oper} {rest : List Oper} {o : Oper} {a : Act} {w : World} {Q : Exit → Act → World → Prop} (hg : o.guard = none) (x : Operand) (ho : o.op = .buildSlice 28 1 #[(0, x)]) (r : Wk) (hx : a.eval x = r.val)
    (h : ∀ w', OWk w' w.heap.size (.slice (some ⟨w.heap.size, 0, none⟩) 1 1) [r] → Below w.heap.size w w' → wpList Try.prog ops Q rest (a.put o.dst (.slice (some ⟨w.heap.size, 0, none⟩) 1 1)) w') : wpList Try.prog ops Q (o :: rest) a w :=
  Wk.wpList_lit1 hg x ho r hx fun w' hb h1 => h w' (OWk.box hb (Nat.le_refl _)) h1

theorem step_litk {w : World} {ops : Array Oper} {o : Oper} {a : Act} {K : Act → World → Prop} {Q : Exit → Act → World → Prop} {E : Prop} (hgd : o.guard = none) (x : Operand) (ho : o.op = .buildSlice 28 1 #[(0, x)]) (r : Wk) (hx : a.eval x = r.val)
    (h : ∀ w', OWk w' w.heap.size (.slice (some ⟨w.heap.size, 0, none⟩) 1 1) [r] → Below w.heap.size w w' → K (a.put o.dst (.slice (some ⟨w.heap.size, 0, none⟩) 1 1)) w') :
    if Region.wanted o (yielded ops a.tmps) = true then Oper.wp Try.prog o a w K Q else E := by
  have hw : Region.wanted o (yielded ops a.tmps) = true := by simp [Region.wanted, hgd]
  rw [if_pos hw]
  unfold Oper.wp execOp
  simp only [ho, List.map_toArray, List.map_cons, List.map_nil, hx, Sem.run_bind, Wk.run_lit1, Result.andThen_ok, Sem.run_pure]
  exact h _ (OWk.box (BoxAt.new w _ _) (Nat.le_refl _)) ((Below.refl _ w).alloc (Nat.le_refl _) _)

theorem results_box_tmp3 {P : Program} {fn : Func} {p u v x : Tmp} {ty : TypeId} (h : fn.results = #[.cell p ty, .tmp u, .tmp v, .tmp x]) (tmps : Array Value) (w : World) (g : Nat) (t : TypeId) (cs : Array Value) (fr : Nat × Nat) (d : TypeDesc)
    (hp : tmps.getD p undef = .pointer (some ⟨g, 0, none⟩)) (hg : w.heap[g]? = some (.cells cs t fr))
    (hu : P.underlying ty = some d) (hd : (match d with | .struct _ | .array _ _ => true | _ => false) = true) (hi : (P.info? ty).map (·.size) = some cs.size) :
    (results fn tmps).run P w = .ok (.tuple #[.agg cs, tmps.getD u undef, tmps.getD v undef, tmps.getD x undef]) w := by
  have hp' : tmps[p]?.getD undef = .pointer (some ⟨g, 0, none⟩) := by simpa using hp
  simp [results, h, hp', asAddr, run_loadVar_row w g t ty cs fr d hg hu hd hi]

/-- What turns in one block alone, and what is new. -/
theorem grow_new {a b c : World} {row : Option Nat} (h : a.grownBy b row) (k : Below b.heap.size b c) : a.grownBy c row :=
  ⟨k.os.trans h.os, k.tape.trans h.tape, k.output.trans h.output, Nat.le_trans h.size k.size, fun i hi hr => (k.block i (Nat.lt_of_lt_of_le hi h.size)).trans (h.block i hi hr)⟩

theorem grow_over {a b c : World} {row : Option Nat} {g : Nat} (h : a.grownBy b row) (k : b.grownBy c (some g)) (hg : a.heap.size ≤ g) : a.grownBy c row :=
  ⟨k.os.trans h.os, k.tape.trans h.tape, k.output.trans h.output, Nat.le_trans h.size k.size, fun i hi hr => (k.block i (Nat.lt_of_lt_of_le hi h.size) (fun e => by have := Option.some.inj e; omega)).trans (h.block i hi hr)⟩

theorem grow_drew {a b : World} {row : Option Nat} (h : a.grownBy b row) : a.grownBy b.drew row :=
  ⟨h.os, h.tape, h.output, h.size, h.block⟩

end Go.Proofs.Ytgnjnhfimagbpaa
