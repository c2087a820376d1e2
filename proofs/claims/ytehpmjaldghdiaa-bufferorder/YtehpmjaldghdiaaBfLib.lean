/-
  Steps over the values of a buffer: a literal of one, appended to a list without room, to a list of the call's own; a wake as a literal; results of four.
-/
import Derived.Test.YtehpmjaldghdiaaBLib
import Derived.Test.YtehpmjaldghdiaaBfReg
import Derived.Test.YtehpmjaldghdiaaICl
import Derived.Test.YtehpmjaldghdiaaVFirst
import Derived.Test.YtehpmjaldghdiaaVRefFirst
import Derived.Test.YtehpmjaldghdiaaVRef2
namespace Go.Proofs.Ytehpmjaldghdiaa
open Go.RowKit
set_option linter.unusedVariables false

theorem wrapi_id (x : Int) (h1 : -9223372036854775808 ≤ x) (h2 : x ≤ 9223372036854775807) : IntKind.i64.wrap x = x := by rw [IntKind.wrap_i64]; omega
theorem wrap64_id (x : Int) (h1 : -9223372036854775808 ≤ x) (h2 : x ≤ 9223372036854775807) : wrap64 x = x := by unfold wrap64; omega
theorem OI.nil (w : World) (base : Nat) : OI w base (.slice none 0 0) [] := ⟨rfl, .inl ⟨rfl, rfl⟩⟩
theorem OI.put {w w' : World} {base : Nat} {v : Value} {l : List Int} (h : OI w base v l) {g : Nat} {t : TypeId} {cs : Array Value} (hg : w.grownBy w' (some g)) (hb : BoxAt w g t cs) (ht : t ≠ 3) : OI w' base v l := owns_put h hg hb ht
/-- A slice of the call's own, by its three parts. -/
theorem OI.sl {w : World} {base : Nat} {v : Value} {l : List Int} (h : OI w base v l) : ∃ s : Sl, v = .slice s.a s.n s.c ∧ s.n = l.length ∧ s.n ≤ s.c ∧ s.c ≤ 9223372036854775807 := by
  rcases h.2 with ⟨h, h0⟩ | ⟨g, cap, cur, h, hb, hg, hnc, hcm, _⟩
  · exact ⟨⟨none, 0, 0⟩, by rw [h], by rw [h0], by simp, by simp⟩
  · exact ⟨⟨_, _, cap⟩, h, rfl, hnc, hcm⟩
theorem OWk.sl {w : World} {base : Nat} {v : Value} {l : List Wk} (h : OWk w base v l) : ∃ s : Sl, v = .slice s.a s.n s.c ∧ s.n = l.length ∧ s.n ≤ s.c ∧ s.c ≤ 9223372036854775807 := by
  rcases h.2 with ⟨h, h0⟩ | ⟨g, cap, cur, h, hb, hg, hnc, hcm, _⟩
  · exact ⟨⟨none, 0, 0⟩, by rw [h], by rw [h0], by simp, by simp⟩
  · exact ⟨⟨_, _, cap⟩, h, rfl, hnc, hcm⟩
theorem OWt.n {w : World} {base : Nat} {s : Sl} {l : List Wt} (h : OWt w base s.val l) : s.n = l.length := by
  obtain ⟨r, h1, h2, _⟩ := h.sl
  have : s.n = r.n := by
    unfold Sl.val at h1
    injection h1
  omega
theorem OI.n {w : World} {base : Nat} {s : Sl} {l : List Int} (h : OI w base s.val l) : s.n = l.length := by
  obtain ⟨r, h1, h2, _⟩ := h.sl
  have : s.n = r.n := by
    unfold Sl.val at h1
    injection h1
  omega
theorem OWk.n {w : World} {base : Nat} {s : Sl} {l : List Wk} (h : OWk w base s.val l) : s.n = l.length := by
  obtain ⟨r, h1, h2, _⟩ := h.sl
  have : s.n = r.n := by
    unfold Sl.val at h1
    injection h1
  omega
/-- Where a list of integers of the call's own lies no box of another type lies, nor a list of those who wait. -/
theorem OI.apart {w : World} {base g : Nat} {u : Value} {L : List Int} {t : TypeId} {cs : Array Value} (ho : OI w base u L) (h : BoxAt w g t cs) (ht : t ≠ 3) : some g ≠ u.ownBlock := by
  intro e
  rcases ho.2 with ⟨h2, _⟩ | ⟨g2, cap2, cur2, hv2, hb2, hh2, hrest2⟩
  · rw [h2] at e; simp [Value.ownBlock] at e
  · subst hv2
    simp only [Value.ownBlock, Option.some.injEq] at e
    subst e
    unfold BoxAt at h
    rw [h] at hh2
    injection hh2 with hb
    injection hb with h1 h2 h3
    exact ht h2
theorem owns_over {w w' : World} {base b2 : Nat} {u v : Value} {L : List Int} {e : TypeId} {n : Nat} {xs : List Value} (h : w.ownsRow b2 e 3 u n xs) (ho : OI w base v L) (hg : w.grownBy w' v.ownBlock) (ht : e ≠ 3) : w'.ownsRow b2 e 3 u n xs := by
  refine h.kept hg ?_
  rcases h.2 with ⟨rfl, _⟩ | ⟨b, cap, cur, rfl, _, hh, _⟩
  · exact .inl rfl
  · exact .inr (fun e => (OI.apart ho (show BoxAt w b _ cur from hh) ht) e)
theorem OWt.over {w w' : World} {base b2 : Nat} {u v : Value} {L : List Int} {l : List Wt} (h : OWt w b2 u l) (ho : OI w base v L) (hg : w.grownBy w' v.ownBlock) : OWt w' b2 u l := owns_over h ho hg (by decide)
theorem OWk.over {w w' : World} {base b2 : Nat} {u v : Value} {L : List Int} {l : List Wk} (h : OWk w b2 u l) (ho : OI w base v L) (hg : w.grownBy w' v.ownBlock) : OWk w' b2 u l := owns_over h ho hg (by decide)

theorem run_litI (x : Int) (w : World) : (Instr.buildSlice 22 1 #[(0, .int .i64 x)]).run Try.prog w = .ok (.slice (some ⟨w.heap.size, 0, none⟩) 1 1) (w.alloc (.cells #[.int .i64 x] 3)) := by
  obtain ⟨i0, hi, hz0, hz1, hz2⟩ := info_parts Try.infoOI
  have hs : (sizeOf 3).run Try.prog w = .ok 1 w := by unfold sizeOf; simp [typeInfo, hi, hz1]
  have hz : (zeroValue 3).run Try.prog w = .ok (.int .i64 0) w := by unfold zeroValue; simp [typeInfo, hi, hz0]
  have hf : Instr.fill (fun i => some (i * 1, 1)) ((Array.range (1 * 1)).map (fun j => (Value.int .i64 0).cells[j % (Value.int .i64 0).cells.size]!)) [(0, .int .i64 x)] = some #[.int .i64 x] := by kernel_rfl
  unfold Instr.buildSlice
  simp only [Sem.run_bind, run_underlying Try.underlying22, Result.andThen_ok, hs]
  rw [if_neg (by decide), if_neg (by decide)]
  simp only [Sem.run_bind, hz, Sem.run_pure, Result.andThen_ok, hf, newRow, run_newObj_alloc]
theorem wpList_litI {ops : Array Oper} {rest : List Oper} {o : Oper} {a : Act} {w : World} {Q : Exit → Act → World → Prop} (hg : o.guard = none) (x : Operand) (ho : o.op = .buildSlice 22 1 #[(0, x)]) (r : Int) (hx : a.eval x = .int .i64 r)
    (h : ∀ w', BoxAt w' w.heap.size 3 #[.int .i64 r] → Below w.heap.size w w' → wpList Try.prog ops Q rest (a.put o.dst (.slice (some ⟨w.heap.size, 0, none⟩) 1 1)) w') : wpList Try.prog ops Q (o :: rest) a w := by
  refine wpList_plain hg fun K hK => ?_
  unfold Oper.wp execOp
  simp only [ho, List.map_toArray, List.map_cons, List.map_nil, hx, Sem.run_bind, run_litI, Result.andThen_ok, Sem.run_pure]
  exact hK _ _ (h _ (BoxAt.new w _ _) ((Below.refl _ w).alloc (Nat.le_refl _) _))
theorem step_litI {w : World} {ops : Array Oper} {o : Oper} {a : Act} {K : Act → World → Prop} {Q : Exit → Act → World → Prop} {E : Prop} (hgd : o.guard = none) (x : Operand) (ho : o.op = .buildSlice 22 1 #[(0, x)]) (r : Int) (hx : a.eval x = .int .i64 r)
    (h : ∀ w', BoxAt w' w.heap.size 3 #[.int .i64 r] → Below w.heap.size w w' → K (a.put o.dst (.slice (some ⟨w.heap.size, 0, none⟩) 1 1)) w') :
    if Region.wanted o (yielded ops a.tmps) = true then Oper.wp Try.prog o a w K Q else E := by
  have hw : Region.wanted o (yielded ops a.tmps) = true := by simp [Region.wanted, hgd]
  rw [if_pos hw]
  unfold Oper.wp execOp
  simp only [ho, List.map_toArray, List.map_cons, List.map_nil, hx, Sem.run_bind, run_litI, Result.andThen_ok, Sem.run_pure]
  exact h _ (BoxAt.new w _ _) ((Below.refl _ w).alloc (Nat.le_refl _) _)
theorem OWk.box {w : World} {base g : Nat} {r : Wk} (h : BoxAt w g 41 r.cells.toArray) (hb : base ≤ g) : OWk w base (.slice (some ⟨g, 0, none⟩) 1 1) [r] :=
  ⟨rfl, .inr ⟨g, 1, _, rfl, hb, h, Nat.le_refl _, by unfold maxLen; decide, rfl, by simp [Wk.cells]⟩⟩
theorem wpList_litk {ops : Array Oper} {rest : List Oper} {o : Oper} {a : Act} {w : World} {Q : Exit → Act → World → Prop} (hg : o.guard = none) (x : Operand) (ho : o.op = .buildSlice 29 1 #[(0, x)]) (r : Wk) (hx : a.eval x = r.val)
    (h : ∀ w', OWk w' w.heap.size (.slice (some ⟨w.heap.size, 0, none⟩) 1 1) [r] → Below w.heap.size w w' → wpList Try.prog ops Q rest (a.put o.dst (.slice (some ⟨w.heap.size, 0, none⟩) 1 1)) w') : wpList Try.prog ops Q (o :: rest) a w :=
  Wk.wpList_lit1 hg x ho r hx fun w' hb h1 => h w' (OWk.box hb (Nat.le_refl _)) h1
theorem step_litk {w : World} {ops : Array Oper} {o : Oper} {a : Act} {K : Act → World → Prop} {Q : Exit → Act → World → Prop} {E : Prop} (hgd : o.guard = none) (x : Operand) (ho : o.op = .buildSlice 29 1 #[(0, x)]) (r : Wk) (hx : a.eval x = r.val)
    (h : ∀ w', OWk w' w.heap.size (.slice (some ⟨w.heap.size, 0, none⟩) 1 1) [r] → Below w.heap.size w w' → K (a.put o.dst (.slice (some ⟨w.heap.size, 0, none⟩) 1 1)) w') :
    if Region.wanted o (yielded ops a.tmps) = true then Oper.wp Try.prog o a w K Q else E := by
  have hw : Region.wanted o (yielded ops a.tmps) = true := by simp [Region.wanted, hgd]
  rw [if_pos hw]
  unfold Oper.wp execOp
  simp only [ho, List.map_toArray, List.map_cons, List.map_nil, hx, Sem.run_bind, Wk.run_lit1, Result.andThen_ok, Sem.run_pure]
  exact h _ (OWk.box (BoxAt.new w _ _) (Nat.le_refl _)) ((Below.refl _ w).alloc (Nat.le_refl _) _)

/-- 'append(s, x)' of one value onto a list without room behind its end: what it returns is new. -/
theorem run_app_full {w : World} (ty : TypeId) {L : List Int} {sa : Option Addr} {n : Nat} (hn : n = L.length) (hsee : Sees w .i64 (.slice sa n n) L) (g : Nat) (z : Int) (t : TypeId) (hg : BoxAt w g t #[.int .i64 z]) (hlen : L.length ≤ 900000) :
    ∃ v' w', (Builtin.append_ #[22, 22] ty #[.slice sa n n, .slice (some ⟨g, 0, none⟩) 1 1]).run Try.prog w = .ok v' w' ∧ OI w' w.heap.size v' (L ++ [z]) ∧ Below w.heap.size w w' := by
  obtain ⟨i0, hi, hz0, hz1, hz2⟩ := info_parts Try.infoOI
  have hnews : ∀ j u, [Value.int .i64 z][j]? = some u → w.cell? ((⟨g, 0, none⟩ : Addr).add j) = some u := by
    intro j u hj
    rw [add_none, Nat.zero_add, hg.cell j]
    simpa using hj
  subst hn
  rcases hsee with ⟨h0, hL⟩ | ⟨ad, cap, h1, h3, h2, hc⟩
  · injection h0 with e1 e2 e3
    subst e1 hL
    obtain ⟨v', w', hr, ho, hgw, _⟩ := run_append_own (P := Try.prog) (w := w) w.heap.size 22 ty 3 i0 _ 1 8 Try.underlying22 hi hz0 hz1 hz2 rfl (by decide) (.slice none 0 0) 0 [] ⟨rfl, .inl ⟨rfl, rfl⟩⟩ ⟨g, 0, none⟩ 1 1 [.int .i64 z] (by simp) hnews (by simp [Value.oneCell']) (by unfold maxLen; decide) (by decide) (Nat.le_refl _)
    exact ⟨v', w', hr, by unfold OI; simpa using ho, (Below.refl _ _).grown hgw (Nat.le_refl _) (by simp [Value.ownBlock])⟩
  · injection h1 with e1 e2 e3
    subst e1
    have holds : ∀ j v, (L.map (Value.int .i64))[j]? = some v → w.cell? (ad.add j) = some v := by
      intro j u hj
      rcases Nat.lt_or_ge j L.length with h | h
      · simp [List.getElem?_map, List.getElem?_eq_getElem h] at hj
        rw [hc j h, ← hj]; simp [List.getD, List.getElem?_eq_getElem h]
      · simp [List.getElem?_map, List.getElem?_eq_none h] at hj
    have hr := run_append_grow (P := Try.prog) w 22 ty 3 i0 _ Try.underlying22 hi hz0 ad L.length L.length (L.map (Value.int .i64)) (by simp [hz1]) holds ⟨g, 0, none⟩ 1 1 [.int .i64 z] (by simp [hz1]) hnews (by omega) (by omega) (growslice_fits (by omega) (by rw [hz2]; omega))
    refine ⟨_, _, hr, ?_, ⟨rfl, rfl, rfl, by simp, fun k hk => heap_alloc_old w.drew _ hk⟩⟩
    have hge := grownCap_ge w (L.length + 1) L.length 3
    have hcm := grownCap_le_maxLen w (L.length + 1) L.length 3 (by unfold maxLen; omega)
    unfold OI
    refine ⟨by simp, .inr ⟨w.heap.size, _, _, by simp, Nat.le_refl _, heap_alloc_new w.drew _, by simpa using hge, hcm, ?_, ?_⟩⟩
    · simp [size_zeroCells, Value.cells]
      omega
    · simp [List.take_append]
      rw [List.take_of_length_le (by simp)]
theorem app_full {w : World} {ops : Array Oper} {rest : List Oper} {o : Oper} {a : Act} {Q : Exit → Act → World → Prop} (hgd : o.guard = none) (s x : Operand) (ho : o.op = .call { callee := .builtin .append, args := #[s, x], argTypes := #[22, 22] })
    {L : List Int} (sa : Option Addr) (n : Nat) (hs : a.eval s = .slice sa n n) (hn : n = L.length) (hsee : Sees w .i64 (.slice sa n n) L) (g : Nat) (z : Int) (t : TypeId) (hx : a.eval x = .slice (some ⟨g, 0, none⟩) 1 1) (hg : BoxAt w g t #[.int .i64 z]) (hlen : L.length ≤ 900000)
    (h : ∀ v' w', OI w' w.heap.size v' (L ++ [z]) → Below w.heap.size w w' → wpList Try.prog ops Q rest (a.put o.dst v') w') : wpList Try.prog ops Q (o :: rest) a w := by
  refine wpList_plain hgd fun K hK => ?_
  obtain ⟨v', w', hr, h1, h2⟩ := run_app_full o.type hn hsee g z t hg hlen
  unfold Oper.wp
  simp [execOp, ho, resolve, invoke, builtin, hs, hx, hr, Result.andThen]
  exact hK _ _ (h v' w' h1 h2)
theorem step_app_full {w : World} {ops : Array Oper} {o : Oper} {a : Act} {K : Act → World → Prop} {Q : Exit → Act → World → Prop} {E : Prop} (hgd : o.guard = none) (s x : Operand) (ho : o.op = .call { callee := .builtin .append, args := #[s, x], argTypes := #[22, 22] })
    {L : List Int} (sa : Option Addr) (n : Nat) (hs : a.eval s = .slice sa n n) (hn : n = L.length) (hsee : Sees w .i64 (.slice sa n n) L) (g : Nat) (z : Int) (t : TypeId) (hx : a.eval x = .slice (some ⟨g, 0, none⟩) 1 1) (hg : BoxAt w g t #[.int .i64 z]) (hlen : L.length ≤ 900000)
    (h : ∀ v' w', OI w' w.heap.size v' (L ++ [z]) → Below w.heap.size w w' → K (a.put o.dst v') w') :
    if Region.wanted o (yielded ops a.tmps) = true then Oper.wp Try.prog o a w K Q else E := by
  have hw : Region.wanted o (yielded ops a.tmps) = true := by simp [Region.wanted, hgd]
  rw [if_pos hw]
  obtain ⟨v', w', hr, h1, h2⟩ := run_app_full o.type hn hsee g z t hg hlen
  unfold Oper.wp
  simp [execOp, ho, resolve, invoke, builtin, hs, hx, hr, Result.andThen]
  exact h v' w' h1 h2
/-- 'append(nil, x...)' of integers. -/
theorem app_nilI {w : World} {ops : Array Oper} {rest : List Oper} {o : Oper} {a : Act} {Q : Exit → Act → World → Prop} (hgd : o.guard = none) (x : Operand) (ho : o.op = .call { callee := .builtin .append, args := #[.const (.slice none 0 0), x], argTypes := #[22, 22] })
    (y : Value) (l : List Int) (hx : a.eval x = y) (hsee : Sees w .i64 y l) (hlen : l.length ≤ 900000)
    (h : ∀ v' w', OI w' w.heap.size v' l → Below w.heap.size w w' → wpList Try.prog ops Q rest (a.put o.dst v') w') : wpList Try.prog ops Q (o :: rest) a w := by
  refine app_ints hgd _ x ho w.heap.size _ [] rfl (OI.nil _ _) y l hx hsee (by simp; omega) (Nat.le_refl _) fun v' w' h1 _ h3 => h v' w' (by simpa using h1) h3
theorem step_app_nilI {w : World} {ops : Array Oper} {o : Oper} {a : Act} {K : Act → World → Prop} {Q : Exit → Act → World → Prop} {E : Prop} (hgd : o.guard = none) (x : Operand) (ho : o.op = .call { callee := .builtin .append, args := #[.const (.slice none 0 0), x], argTypes := #[22, 22] })
    (y : Value) (l : List Int) (hx : a.eval x = y) (hsee : Sees w .i64 y l) (hlen : l.length ≤ 900000)
    (h : ∀ v' w', OI w' w.heap.size v' l → Below w.heap.size w w' → K (a.put o.dst v') w') :
    if Region.wanted o (yielded ops a.tmps) = true then Oper.wp Try.prog o a w K Q else E := by
  refine step_app_ints hgd _ x ho w.heap.size _ [] rfl (OI.nil _ _) y l hx hsee (by simp; omega) (Nat.le_refl _) fun v' w' h1 _ h3 => h v' w' (by simpa using h1) h3

theorem results_box_tmp3 {P : Program} {fn : Func} {p u v x : Tmp} {ty : TypeId} (h : fn.results = #[.cell p ty, .tmp u, .tmp v, .tmp x]) (tmps : Array Value) (w : World) (g : Nat) (t : TypeId) (cs : Array Value) (fr : Nat × Nat) (d : TypeDesc)
    (hp : tmps.getD p undef = .pointer (some ⟨g, 0, none⟩)) (hg : w.heap[g]? = some (.cells cs t fr))
    (hu : P.underlying ty = some d) (hd : (match d with | .struct _ | .array _ _ => true | _ => false) = true) (hi : (P.info? ty).map (·.size) = some cs.size) :
    (results fn tmps).run P w = .ok (.tuple #[.agg cs, tmps.getD u undef, tmps.getD v undef, tmps.getD x undef]) w := by
  have hp' : tmps[p]?.getD undef = .pointer (some ⟨g, 0, none⟩) := by simpa using hp
  simp [results, h, hp', asAddr, run_loadVar_row w g t ty cs fr d hg hu hd hi]
end Go.Proofs.Ytehpmjaldghdiaa
