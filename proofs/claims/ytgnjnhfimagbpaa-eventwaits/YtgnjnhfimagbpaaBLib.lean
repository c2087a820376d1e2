/-
  Steps over boxes in a region that draws its order, results of calls, what a store into a box leaves.
-/
import Derived.Test.YtgnjnhfimagbpaaBCopy
import Derived.Test.YtgnjnhfimagbpaaVRef
import Derived.Test.YtgnjnhfimagbpaaSlT
namespace Go.Proofs.Ytgnjnhfimagbpaa
open Go.RowKit
set_option linter.unusedVariables false

theorem wpList_dst {P : Program} {ops : Array Oper} {rest : List Oper} {o : Oper} {a : Act} {w : World} {Q : Exit → Act → World → Prop} (n : Nat) (hd : o.dst = some n) (h : wpList P ops Q (o :: rest) a w) : wpList P ops Q (o :: rest) a w := h
theorem owns_put {w w' : World} {base : Nat} {e : TypeId} {size : Nat} {v : Value} {n : Nat} {xs : List Value} (h : w.ownsRow base e size v n xs) {g : Nat} {t : TypeId} {cs : Array Value} (hg : w.grownBy w' (some g)) (hb : BoxAt w g t cs) (ht : t ≠ e) : w'.ownsRow base e size v n xs := by
  refine h.kept hg ?_
  rcases h.2 with ⟨rfl, _⟩ | ⟨b, cap, cur, rfl, _, hh, _⟩
  · exact .inl rfl
  · refine .inr (fun e => ?_)
    have : b = g := Option.some.inj e
    subst this
    unfold BoxAt at hb
    rw [hh] at hb
    injection hb with hb
    injection hb with h1 h2 h3
    exact ht h2.symm
theorem OWt.put {w w' : World} {base : Nat} {v : Value} {l : List Wt} (h : OWt w base v l) {g : Nat} {t : TypeId} {cs : Array Value} (hg : w.grownBy w' (some g)) (hb : BoxAt w g t cs) (ht : t ≠ 26) : OWt w' base v l := owns_put h hg hb ht
theorem OWk.put {w w' : World} {base : Nat} {v : Value} {l : List Wk} (h : OWk w base v l) {g : Nat} {t : TypeId} {cs : Array Value} (hg : w.grownBy w' (some g)) (hb : BoxAt w g t cs) (ht : t ≠ 42) : OWk w' base v l := owns_put h hg hb ht
theorem Try.zeroWt : (Try.prog.info? 26).bind (·.zero) = some (.agg Wt.zero.cells.toArray) := by kernel_rfl
theorem Try.infoWt : (Try.prog.info? 26).map (·.size) = some 3 := by kernel_rfl
/-- A slice of the call's own, by its three parts. -/
theorem OWt.sl {w : World} {base : Nat} {v : Value} {l : List Wt} (h : OWt w base v l) : ∃ s : Sl, v = .slice s.a s.n s.c ∧ s.n = l.length ∧ s.n ≤ s.c ∧ s.c ≤ 9223372036854775807 := by
  rcases h.2 with ⟨h, h0⟩ | ⟨g, cap, cur, h, hb, hg, hnc, hcm, _⟩
  · exact ⟨⟨none, 0, 0⟩, by rw [h], by rw [h0], by simp, by simp⟩
  · exact ⟨⟨_, _, cap⟩, h, rfl, hnc, hcm⟩

theorem box_yields {o : Oper} {a : Act} (T : TypeId) (x : Operand) (ho : o.op = .load T x) (g : Nat) (hx : a.eval x = .pointer (some ⟨g, 0, none⟩)) (cs : List Value) (t : TypeId) (fs : Array Field) (hu : Try.prog.underlying T = some (.struct fs)) (hi : (Try.prog.info? T).map (·.size) = some cs.length) {w : World} (hc : BoxAt w g t cs.toArray) :
    (execOp a.eval o).run Try.prog w = .ok (.value (.agg cs.toArray)) w := by
  unfold execOp
  simp only [ho, hx, Instr.loadAt, Instr.sureAddr, Sem.run_bind, Sem.run_pure, Result.andThen_ok, run_loadVar_mid w g 0 T cs _ (box_range hc) hu rfl hi]

theorem step_store_whole {P : Program} {w : World} {ops : Array Oper} {o : Oper} {a : Act} {K : Act → World → Prop} {Q : Exit → Act → World → Prop} {E : Prop} (hgd : o.guard = none) (T : TypeId) (x y : Operand) (ho : o.op = .store T x y)
    (g : Nat) (hx : a.eval x = .pointer (some ⟨g, 0, none⟩)) (cs : List Value) (hy : a.eval y = .agg cs.toArray) (t : TypeId) (old : Array Value) (hb : BoxAt w g t old) (hold : old.size = cs.length) (hi : (P.info? T).map (·.size) = some cs.length) (h1 : ∀ v ∈ cs, v.oneCell' = true)
    (h : ∀ w', BoxAt w' g t cs.toArray → w.grownBy w' (some g) → w'.heap.size = w.heap.size → K (a.put o.dst undef) w') :
    if Region.wanted o (yielded ops a.tmps) = true then Oper.wp P o a w K Q else E := by
  have hw : Region.wanted o (yielded ops a.tmps) = true := by simp [Region.wanted, hgd]
  rw [if_pos hw]
  exact wp_store_row T x y ho g cs.toArray hx hy t old hb (by simpa using hi) (by simpa using hold) (all_oneCell_toArray h1) (h _ (setRow_heap w g old _ t _ hb) ⟨rfl, rfl, rfl, by simp, fun j _ hj => setRow_other w g j _ (fun e => hj (by simp [e]))⟩ (by simp))
theorem step_store_box {P : Program} {w : World} {ops : Array Oper} {o : Oper} {a : Act} {K : Act → World → Prop} {Q : Exit → Act → World → Prop} {E : Prop} (hgd : o.guard = none) (T : TypeId) (x y : Operand) (ho : o.op = .store T x y)
    (b k : Nat) (u : Value) (hx : a.eval x = .pointer (some ⟨b, k, none⟩)) (hy : a.eval y = u) (hu : u.cells = #[u]) (h1 : u.oneCell' = true) (hi : (P.info? T).map (·.size) = some 1)
    (t : TypeId) (cs : Array Value) (hb : BoxAt w b t cs) (hk : k < cs.size)
    (h : ∀ w', BoxAt w' b t (cs.setIfInBounds k u) → w.grownBy w' (some b) → w'.heap.size = w.heap.size → K (a.put o.dst undef) w') :
    if Region.wanted o (yielded ops a.tmps) = true then Oper.wp P o a w K Q else E := by
  have hw : Region.wanted o (yielded ops a.tmps) = true := by simp [Region.wanted, hgd]
  rw [if_pos hw]
  exact wp_store_box T x y ho b k u hx hy hu h1 hi t cs hb hk h
theorem step_new {P : Program} {w : World} {ops : Array Oper} {o : Oper} {a : Act} {K : Act → World → Prop} {Q : Exit → Act → World → Prop} {E : Prop} (hgd : o.guard = none) (T : TypeId) (ho : o.op = .alloc T) (cs : Array Value) (hz : (P.info? T).bind (·.zero) = some (.agg cs))
    (h : ∀ w', BoxAt w' w.heap.size T cs → Below w.heap.size w w' → w'.heap.size = w.heap.size + 1 → K (a.put o.dst (.pointer (some ⟨w.heap.size, 0, none⟩))) w') :
    if Region.wanted o (yielded ops a.tmps) = true then Oper.wp P o a w K Q else E := by
  have hw : Region.wanted o (yielded ops a.tmps) = true := by simp [Region.wanted, hgd]
  rw [if_pos hw]
  cases hq : P.info? T with
  | none => simp [hq] at hz
  | some i =>
    have hz' : i.zero = some (.agg cs) := by simpa [hq] using hz
    have hzr : (zeroValue T).run P w = .ok (.agg cs) w := by
      unfold zeroValue
      simp [typeInfo, hq, hz']
    unfold Oper.wp execOp
    simp only [ho, Instr.alloc, hzr, Sem.run_bind, newVar, newRow, run_newObj_alloc, Sem.run_pure, Result.andThen_ok]
    exact h _ (BoxAt.new w T cs) ((Below.refl _ w).alloc (Nat.le_refl _) _) (by simp)
/-- 'append(nil, x...)' of those who wait. -/
theorem app_nilWt {w : World} {ops : Array Oper} {rest : List Oper} {o : Oper} {a : Act} {Q : Exit → Act → World → Prop} (hgd : o.guard = none) (x : Operand) (ho : o.op = .call { callee := .builtin .append, args := #[.const (.slice none 0 0), x], argTypes := #[22, 22] })
    (y : Value) (l : List Wt) (hx : a.eval x = y) (hsee : SeesWt w y l) (hlen : l.length ≤ 900000)
    (h : ∀ v' w', OWt w' w.heap.size v' l → Below w.heap.size w w' → wpList Try.prog ops Q rest (a.put o.dst v') w') : wpList Try.prog ops Q (o :: rest) a w := by
  refine app_row 26 22 3 24 _ Try.underlying22 Try.infoOWt rfl (by decide) (by decide) hgd _ x ho w.heap.size _ 0 [] rfl ⟨rfl, .inl ⟨rfl, rfl⟩⟩ y (l.map Wt.cells) hx hsee (lensWt l) (oneWt l) (by simp; omega) (Nat.le_refl _) fun v' w' h1 _ h3 => h v' w' ?_ h3
  unfold OWt
  simpa using h1
theorem step_app_nilWt {w : World} {ops : Array Oper} {o : Oper} {a : Act} {K : Act → World → Prop} {Q : Exit → Act → World → Prop} {E : Prop} (hgd : o.guard = none) (x : Operand) (ho : o.op = .call { callee := .builtin .append, args := #[.const (.slice none 0 0), x], argTypes := #[22, 22] })
    (y : Value) (l : List Wt) (hx : a.eval x = y) (hsee : SeesWt w y l) (hlen : l.length ≤ 900000)
    (h : ∀ v' w', OWt w' w.heap.size v' l → Below w.heap.size w w' → K (a.put o.dst v') w') :
    if Region.wanted o (yielded ops a.tmps) = true then Oper.wp Try.prog o a w K Q else E := by
  refine step_app_row 26 22 3 24 _ Try.underlying22 Try.infoOWt rfl (by decide) (by decide) hgd _ x ho w.heap.size _ 0 [] rfl ⟨rfl, .inl ⟨rfl, rfl⟩⟩ y (l.map Wt.cells) hx hsee (lensWt l) (oneWt l) (by simp; omega) (Nat.le_refl _) fun v' w' h1 _ h3 => h v' w' ?_ h3
  unfold OWt
  simpa using h1

theorem OWt.at {w : World} {base g n cap : Nat} {L : List Wt} (h : OWt w base (.slice (some ⟨g, 0, none⟩) n cap) L) (i j : Nat) (hi : i < L.length) (hj : j < 3) : w.cell? ⟨g, i * 3 + j, none⟩ = some ((L.getD i Wt.zero).cells.getD j .nilIface) := by
  have hn : n = L.length := by
    rcases h.2 with ⟨h', _⟩ | ⟨_, _, _, h', _⟩
    · simp at h'
    · injection h'
  subst hn
  rw [World.ownsRow.cellAt h (i * 3 + j) (by omega), flat_get 3 _ (lensWt L) i j (by simpa using hi) hj, cells_getDWt L i hi]
theorem OWt.apart {w w' : World} {base G : Nat} {v : Value} {l : List Wt} (h : OWt w base v l) (hg : w.grownBy w' (some G)) (hne : ∀ k, v.ownBlock = some k → k ≠ G) : OWt w' base v l := by
  refine World.ownsRow.kept h hg ?_
  rcases h.2 with ⟨rfl, _⟩ | ⟨b, cap, cur, rfl, _, hh, _⟩
  · exact .inl rfl
  · exact .inr (fun e => hne b rfl (Option.some.inj e))
/-- A field of one of a list of the call's own is written; what it reads as then is not told. -/
theorem step_set_Wt {w : World} {ops : Array Oper} {o : Oper} {a : Act} {K : Act → World → Prop} {Q : Exit → Act → World → Prop} {E : Prop} (hgd : o.guard = none) (T : TypeId) (x y : Operand) (ho : o.op = .store T x y)
    (base G n cap : Nat) (L : List Wt) (hown : OWt w base (.slice (some ⟨G, 0, none⟩) n cap) L) (i j : Nat) (hi : i < L.length) (hj : j < 3) (k : Nat) (hk : k = i * 3 + j) (hx : a.eval x = .pointer (some ⟨G, k, none⟩)) (u : Value) (hy : a.eval y = u) (hu : u.cells = #[u]) (h1 : u.oneCell' = true) (hs : (Try.prog.info? T).map (·.size) = some 1)
    (h : ∀ w', w.grownBy w' (some G) → w'.heap.size = w.heap.size → K (a.put o.dst undef) w') :
    if Region.wanted o (yielded ops a.tmps) = true then Oper.wp Try.prog o a w K Q else E := by
  have hw : Region.wanted o (yielded ops a.tmps) = true := by simp [Region.wanted, hgd]
  rw [if_pos hw]
  subst hk
  have hn : n = L.length := by
    rcases hown.2 with ⟨h', _⟩ | ⟨_, _, _, h', _⟩
    · simp at h'
    · injection h'
  subst hn
  exact wp_store_at T x y ho G (i * 3 + j) u hx hy hu h1 hs _ (hown.at i j hi hj) (World.ownsRow.frozenAt hown _) (h _ (grown_set w G _ u) (by simp))
theorem below_drewB {B : Nat} {a w : World} (h : Below B a w) (n : Nat) : Below B a (w.drewN n) := ⟨h.os, h.tape, h.output, h.size, h.block⟩

theorem results_box_tmp {P : Program} {fn : Func} {p u : Tmp} {ty : TypeId} (h : fn.results = #[.cell p ty, .tmp u]) (tmps : Array Value) (w : World) (g : Nat) (t : TypeId) (cs : Array Value) (fr : Nat × Nat) (d : TypeDesc)
    (hp : tmps.getD p undef = .pointer (some ⟨g, 0, none⟩)) (hg : w.heap[g]? = some (.cells cs t fr))
    (hu : P.underlying ty = some d) (hd : (match d with | .struct _ | .array _ _ => true | _ => false) = true) (hi : (P.info? ty).map (·.size) = some cs.size) :
    (results fn tmps).run P w = .ok (.tuple #[.agg cs, tmps.getD u undef]) w := by
  have hp' : tmps[p]?.getD undef = .pointer (some ⟨g, 0, none⟩) := by simpa using hp
  simp [results, h, hp', asAddr, run_loadVar_row w g t ty cs fr d hg hu hd hi]
theorem results_box_tmp2 {P : Program} {fn : Func} {p u v : Tmp} {ty : TypeId} (h : fn.results = #[.cell p ty, .tmp u, .tmp v]) (tmps : Array Value) (w : World) (g : Nat) (t : TypeId) (cs : Array Value) (fr : Nat × Nat) (d : TypeDesc)
    (hp : tmps.getD p undef = .pointer (some ⟨g, 0, none⟩)) (hg : w.heap[g]? = some (.cells cs t fr))
    (hu : P.underlying ty = some d) (hd : (match d with | .struct _ | .array _ _ => true | _ => false) = true) (hi : (P.info? ty).map (·.size) = some cs.size) :
    (results fn tmps).run P w = .ok (.tuple #[.agg cs, tmps.getD u undef, tmps.getD v undef]) w := by
  have hp' : tmps[p]?.getD undef = .pointer (some ⟨g, 0, none⟩) := by simpa using hp
  simp [results, h, hp', asAddr, run_loadVar_row w g t ty cs fr d hg hu hd hi]
end Go.Proofs.Ytgnjnhfimagbpaa
