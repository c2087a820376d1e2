/-
  What dormant, there, and what queues a process do; a process that is being changed, with its partition's box.
-/
import Derived.Test.YtdanfnbclbiidaaQLib
import Derived.Test.YtdanfnbclbiidaaQMath
import Derived.Shelf.Abstract
namespace Go.Proofs.Ytdanfnbclbiidaa
open Go.RowKit
set_option linter.unusedVariables false

theorem Try.zeroPx : (Try.prog.info? 57).bind (·.zero) = some (.agg Px.zero.cells.toArray) := by kernel_rfl
theorem Px.one (r : Px) : ∀ v ∈ r.cells, v.oneCell' = true := by
  intro v hv
  simp only [Px.cells, List.mem_cons, List.not_mem_nil, or_false] at hv
  rcases hv with rfl | rfl | rfl | rfl | rfl | rfl | rfl | rfl | rfl | rfl | rfl | rfl | rfl | rfl | rfl | rfl | rfl | rfl <;> rfl

theorem results_box_tmp {P : Program} {fn : Func} {p u : Tmp} {ty : TypeId} (h : fn.results = #[.cell p ty, .tmp u]) (tmps : Array Value) (w : World) (g : Nat) (t : TypeId) (cs : Array Value) (fr : Nat × Nat) (d : TypeDesc)
    (hp : tmps.getD p undef = .pointer (some ⟨g, 0, none⟩)) (hg : w.heap[g]? = some (.cells cs t fr))
    (hu : P.underlying ty = some d) (hd : (match d with | .struct _ | .array _ _ => true | _ => false) = true) (hi : (P.info? ty).map (·.size) = some cs.size) :
    (results fn tmps).run P w = .ok (.tuple #[.agg cs, tmps.getD u undef]) w := by
  have hp' : tmps[p]?.getD undef = .pointer (some ⟨g, 0, none⟩) := by simpa using hp
  simp [results, h, hp', asAddr, run_loadVar_row w g t ty cs fr d hg hu hd hi]

set_option maxRecDepth 100000 in
set_option maxHeartbeats 800000 in
theorem dorm_any (p : Int) (w : World) : Calls Try.prog 47 #[.int .i64 p] w fun e w' => e = .returned (Px.dorm p).val ∧ Below w.heap.size w w' := by
  go_enter Try.func47, Try.ntmps47
  go_wp2_with (first
    | (refine wpList_new rfl _ rfl _ Try.zeroPx ?_
       intro w1 b1 h1 z1
       have B1 := hid b1
       have HB1 := hid h1
       clear b1 h1)
    | (refine wpList_store_whole rfl 57 _ _ rfl rfl w.heap.size rfl (Px.dorm p).cells rfl _ _ B1.out rfl Try.infoPx (Px.one _) ?_
       intro w2 b2 h2 z2
       have B2 := hid b2
       have HB2 := hid (HB1.out.trans (grown_below h2 (Nat.le_refl _) (by omega)))
       clear b2 h2))
  refine bodyPost_ret (results_cell_row rfl _ _ w.heap.size 57 _ (0, 0) _ rfl B2.out Try.underlying57 rfl Try.infoPx) rfl ?_
  exact ⟨rfl, HB2.out⟩

set_option maxRecDepth 100000 in
theorem there_Pc (a : Option Addr) (n c : Nat) (i : Int) (w : World) : Calls Try.prog 44 #[.slice a n c, .int .i64 i] w fun e w' => e = .returned (.bool (decide (0 ≤ i ∧ i < n))) ∧ w' = w := by
  go_enter Try.func44, Try.ntmps44
  by_cases h0 : 0 ≤ i
  · by_cases h1 : i < n
    · rw [decide_eq_true (show 0 ≤ i ∧ i < n from ⟨h0, h1⟩)]
      go_wp2
      go_ret
      exact ⟨rfl, rfl⟩
    · rw [decide_eq_false (show ¬ (0 ≤ i ∧ i < n) from fun h => h1 h.2)]
      go_wp2
      go_ret
      exact ⟨rfl, rfl⟩
  · rw [decide_eq_false (show ¬ (0 ≤ i ∧ i < n) from fun h => h0 h.1)]
    go_wp2
    go_ret
    exact ⟨rfl, rfl⟩
set_option maxRecDepth 100000 in
theorem there_Px (a : Option Addr) (n c : Nat) (i : Int) (w : World) : Calls Try.prog 59 #[.slice a n c, .int .i64 i] w fun e w' => e = .returned (.bool (decide (0 ≤ i ∧ i < n))) ∧ w' = w := by
  go_enter Try.func59, Try.ntmps59
  by_cases h0 : 0 ≤ i
  · by_cases h1 : i < n
    · rw [decide_eq_true (show 0 ≤ i ∧ i < n from ⟨h0, h1⟩)]
      go_wp2
      go_ret
      exact ⟨rfl, rfl⟩
    · rw [decide_eq_false (show ¬ (0 ≤ i ∧ i < n) from fun h => h1 h.2)]
      go_wp2
      go_ret
      exact ⟨rfl, rfl⟩
  · rw [decide_eq_false (show ¬ (0 ≤ i ∧ i < n) from fun h => h0 h.1)]
    go_wp2
    go_ret
    exact ⟨rfl, rfl⟩

theorem box_ne {w : World} {a b : Nat} {t u : TypeId} {cs ds : Array Value} (h : BoxAt w a t cs) (k : BoxAt w b u ds) (hne : t ≠ u) : a ≠ b := by
  intro e
  subst e
  unfold BoxAt at h k
  rw [h] at k
  injection k with k
  injection k with k1 k2 k3
  exact hne k2
theorem BoxAt.turn {w w' : World} {g : Nat} {t : TypeId} {cs : Array Value} (h : BoxAt w g t cs) {S : TypeId → Prop} (hs : ¬ S t) (ht : Turns S w w') : BoxAt w' g t cs := by
  unfold BoxAt at *
  rw [ht.block g (BoxAt.lt h) (fun u ⟨ds, fr, e⟩ => by
    rw [h] at e
    injection e with e
    injection e with e1 e2 e3
    subst e2
    exact hs)]
  exact h

/-- What turns when a process is changed: processes, and a partition's box. -/
def SP (t : TypeId) : Prop := t = 57 ∨ t = 39

/-- .. and no blocks but these two. -/
structure TwoT (g P : Nat) (w w' : World) : Prop where
  t : Turns SP w w'
  b : ∀ k, k < w.heap.size → k ≠ g → k ≠ P → w'.heap[k]? = w.heap[k]?
theorem TwoT.refl (g P : Nat) (w : World) : TwoT g P w w := ⟨Turns.refl SP w, fun _ _ _ _ => rfl⟩
theorem TwoT.trans {g P : Nat} {a b c : World} (h : TwoT g P a b) (k : TwoT g P b c) : TwoT g P a c :=
  ⟨h.t.trans k.t, fun i hi h1 h2 => (k.b i (Nat.lt_of_lt_of_le hi h.t.size) h1 h2).trans (h.b i hi h1 h2)⟩
theorem TwoT.below {g P : Nat} {w w' : World} (h : Below w.heap.size w w') : TwoT g P w w' := ⟨Turns.below h, fun k hk _ _ => h.block k hk⟩

/-- A process that is being changed, its partition's box, and the box of its address. -/
structure PD (w : World) (base g cap i : Nat) (L : List Px) (P O : Nat) (r : Px) (q : PaV) : Prop where
  pw : PW w base g cap i L r
  pb : PaB w P q
  po : BoxAt w O 89 #[.pointer (some ⟨g, i * 18, none⟩)]
theorem PD.below {w w' : World} {base g cap i : Nat} {L : List Px} {P O : Nat} {r : Px} {q : PaV} (h : PD w base g cap i L P O r q) (hb : Below w.heap.size w w') : PD w' base g cap i L P O r q :=
  ⟨h.pw.below hb, BoxAt.belowAll h.pb hb, h.po.belowAll hb⟩
theorem PD.changed {w w' : World} {base g cap i : Nat} {L : List Px} {P O : Nat} {r r' : Px} {q : PaV} (h : PD w base g cap i L P O r q) (hp : PW w' base g cap i L r') (hg : w.grownBy w' (some g)) : PD w' base g cap i L P O r' q ∧ TwoT g P w w' := by
  obtain ⟨cs, b0, _, _⟩ := h.pw.box
  obtain ⟨cs', b1, _, _⟩ := hp.box
  have n1 : P ≠ g := box_ne h.pb b0 (by decide)
  have n2 : O ≠ g := box_ne h.po b0 (by decide)
  exact ⟨⟨hp, BoxAt.grown h.pb hg (by simpa using n1), h.po.grown hg (by simpa using n2)⟩, Turns.grown b0 b1 (.inl rfl) hg, fun k hk h1 _ => hg.block k hk (by simpa using h1)⟩

theorem wpList_store_pd {ops : Array Oper} {rest : List Oper} {o : Oper} {a : Act} {w : World} {Q : Exit → Act → World → Prop} (hgd : o.guard = none) (T : TypeId) (x y : Operand) (ho : o.op = .store T x y) (hd : o.dst = none)
    {base g cap i : Nat} {L : List Px} {P O : Nat} {r : Px} {q : PaV} (hp : PD w base g cap i L P O r q) (k : Nat) (hk : k < 18) (u : Value) (hx : a.eval x = .pointer (some ⟨g, i * 18 + k, none⟩)) (hy : a.eval y = u) (hu : u.cells = #[u]) (h1 : u.oneCell' = true) (hi : (Try.prog.info? T).map (·.size) = some 1)
    (r' : Px) (hr : r'.cells = r.cells.set k u)
    (h : ∀ w', PD w' base g cap i L P O r' q → TwoT g P w w' → wpList Try.prog ops Q rest a w') : wpList Try.prog ops Q (o :: rest) a w :=
  wpList_store_pw hgd T x y ho hd hp.pw k hk u hx hy hu h1 hi r' hr (fun w' h1 h2 h3 => h w' (hp.changed h1 h2).1 (hp.changed h1 h2).2)
theorem wpList_stores_pd {ops : Array Oper} {rest : List Oper} {o : Oper} {a : Act} {w : World} {Q : Exit → Act → World → Prop} (hgd : o.guard = none) (x y : Operand) (ho : o.op = .store 57 x y) (hd : o.dst = none)
    {base g cap i : Nat} {L : List Px} {P O : Nat} {r : Px} {q : PaV} (hp : PD w base g cap i L P O r q) (hx : a.eval x = .pointer (some ⟨g, i * 18, none⟩)) (r' : Px) (hy : a.eval y = r'.val)
    (h : ∀ w', PD w' base g cap i L P O r' q → TwoT g P w w' → wpList Try.prog ops Q rest a w') : wpList Try.prog ops Q (o :: rest) a w :=
  wpList_stores_pw hgd x y ho hd hp.pw hx r' hy (fun w' h1 h2 h3 => h w' (hp.changed h1 h2).1 (hp.changed h1 h2).2)
theorem wpList_next_pd {ops : Array Oper} {rest : List Oper} {o : Oper} {a : Act} {w : World} {Q : Exit → Act → World → Prop} (hgd : o.guard = none) (x y : Operand) (ho : o.op = .store 3 x y) (hd : o.dst = none)
    {base g cap i : Nat} {L : List Px} {P O : Nat} {r : Px} {q : PaV} (hp : PD w base g cap i L P O r q) (n : Int) (hx : a.eval x = .pointer (some ⟨P, 2, none⟩)) (hy : a.eval y = .int .i64 n)
    (h : ∀ w', PD w' base g cap i L P O r { q with nx := n } → TwoT g P w w' → wpList Try.prog ops Q rest a w') : wpList Try.prog ops Q (o :: rest) a w := by
  refine wpList_store_box hgd 3 x y ho hd P 2 (.int .i64 n) hx hy rfl rfl (by kernel_rfl) _ _ hp.pb (by simp [PaV.cells]) (fun w' h1 h2 h3 => ?_)
  obtain ⟨cs, b0, _, _⟩ := hp.pw.box
  have n1 : P ≠ g := box_ne hp.pb b0 (by decide)
  have n2 : O ≠ P := box_ne hp.po hp.pb (by decide)
  have hb' : PaB w' P { q with nx := n } := by simpa [PaB, PaV.cells] using h1
  exact h w' ⟨hp.pw.grown h2 n1, hb', hp.po.grown h2 (by simpa using n2)⟩ ⟨Turns.grown hp.pb hb' (.inr rfl) h2, fun k hk _ h1' => h2.block k hk (by simpa using h1')⟩

set_option maxRecDepth 100000 in
set_option maxHeartbeats 800000 in
theorem queue_any {w : World} {base g cap i : Nat} {L : List Px} {P O : Nat} {r : Px} {q : PaV} (hp : PD w base g cap i L P O r q) :
    Calls Try.prog 60 #[.pointer (some ⟨P, 0, none⟩), .pointer (some ⟨O, 0, none⟩)] w fun e w' => e = .returned (.tuple #[]) ∧ PD w' base g cap i L P O { r with si := q.nx } { q with nx := wrap64 (q.nx + 1) } ∧ TwoT g P w w' := by
  have HD := hid hp
  have c0 : w.cell? ⟨O, 0, none⟩ = some (.pointer (some ⟨g, i * 18, none⟩)) := (hp.po.cell 0).trans rfl
  have c1 : w.cell? ⟨P, 2, none⟩ = some (.int .i64 q.nx) := (BoxAt.cell hp.pb 2).trans rfl
  clear hp
  go_enter Try.func60, Try.ntmps60
  go_wp2_with (first
    | (refine wpList_store_pd rfl _ _ _ rfl rfl HD.out 8 (by decide) (.int .i64 q.nx) rfl rfl rfl rfl (by kernel_rfl) { r with si := q.nx } rfl ?_
       intro w1 hd1 ht1
       have HD1 := hid hd1
       have HT1 := hid ht1
       have c2 : w1.cell? ⟨P, 2, none⟩ = some (.int .i64 q.nx) := (BoxAt.cell hd1.pb 2).trans rfl
       clear hd1 ht1)
    | (refine wpList_next_pd rfl _ _ rfl rfl HD1.out (wrap64 (q.nx + 1)) rfl rfl ?_
       intro w2 hd2 ht2
       have HD2 := hid hd2
       have HT2 := hid (HT1.out.trans ht2)
       clear hd2 ht2))
  refine bodyPost_end (results_none rfl _ _ _) rfl ?_
  exact ⟨rfl, HD2.out, HT2.out⟩
end Go.Proofs.Ytdanfnbclbiidaa
