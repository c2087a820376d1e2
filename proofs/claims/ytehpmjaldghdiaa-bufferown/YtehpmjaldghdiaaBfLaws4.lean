/-
  BufferOwn: the walk.
-/
import Derived.Test.YtehpmjaldghdiaaBfAwake
import Derived.Test.YtehpmjaldghdiaaBfOpen
import Derived.BigQuiet
namespace Go.Proofs.Ytehpmjaldghdiaa
open Go.RowKit
set_option linter.unusedVariables false


theorem sendV_len (d : Int) (xs : List Int) (l : List Wt) (v : Int) : (sendV d xs l v).length ≤ xs.length + 1 := by
  unfold sendV
  split
  · simp
  · split
    · simp
    · omega
theorem sendL_len (d : Int) (k : Bool) (xs : List Int) (l : List Wt) (y : Wt) (may : Bool) : (sendL d k xs l y may).length ≤ l.length + 1 := by
  unfold sendL waitL
  split
  · simp; omega
  · split
    · omega
    · split
      · rw [addP_len]; exact Nat.le_refl _
      · omega
theorem OI.far {w w' : World} {base G : Nat} {v : Value} {l : List Int} (h : OI w base v l) (hg : w.grownBy w' (some G)) (hne : ∀ k, v.ownBlock = some k → k ≠ G) : OI w' base v l := by
  refine World.ownsRow.kept h hg ?_
  rcases h.2 with ⟨rfl, _⟩ | ⟨b, cap, cur, rfl, _, hh, _⟩
  · exact .inl rfl
  · exact .inr (fun e => hne b rfl (Option.some.inj e))
theorem OI.at {w : World} {base g n cap : Nat} {L : List Int} (h : OI w base (.slice (some ⟨g, 0, none⟩) n cap) L) (i : Nat) (hi : i < L.length) : w.cell? ⟨g, i, none⟩ = some (.int .i64 (L.getD i 0)) := by
  have hn : n = L.length := by
    rcases h.2 with ⟨h', _⟩ | ⟨_, _, _, h', _⟩
    · simp at h'
    · injection h'
  subst hn
  rw [World.ownsRow.cellAt h i (by omega)]
  simp [List.getD, List.getElem?_eq_getElem hi]
/-- One of a list of integers of the call's own is written; what it reads as then is not told. -/
theorem step_set_I {w : World} {ops : Array Oper} {o : Oper} {a : Act} {K : Act → World → Prop} {Q : Exit → Act → World → Prop} {E : Prop} (hgd : o.guard = none) (T : TypeId) (x y : Operand) (ho : o.op = .store T x y)
    (base G n cap : Nat) (L : List Int) (hown : OI w base (.slice (some ⟨G, 0, none⟩) n cap) L) (i : Nat) (hi : i < L.length) (hx : a.eval x = .pointer (some ⟨G, i, none⟩)) (u : Value) (hy : a.eval y = u) (hu : u.cells = #[u]) (h1 : u.oneCell' = true) (hs : (Try.prog.info? T).map (·.size) = some 1)
    (h : ∀ w', w.grownBy w' (some G) → w'.heap.size = w.heap.size → K (a.put o.dst undef) w') :
    if Region.wanted o (yielded ops a.tmps) = true then Oper.wp Try.prog o a w K Q else E := by
  have hw : Region.wanted o (yielded ops a.tmps) = true := by simp [Region.wanted, hgd]
  rw [if_pos hw]
  have hn : n = L.length := by
    rcases hown.2 with ⟨h', _⟩ | ⟨_, _, _, h', _⟩
    · simp at h'
    · injection h'
  subst hn
  exact wp_store_at T x y ho G i u hx hy hu h1 hs _ (hown.at i hi) (World.ownsRow.frozenAt hown _) (h _ (grown_set w G _ u) (by simp))


set_option maxRecDepth 100000 in
set_option maxHeartbeats 3200000 in
theorem walk_BufferOwn (w : World) (x0 : BfX) (f0 : x0.fit w) (y : Wt) (f1 : y.fit) :
    Calls Try.prog 7 #[x0.val, y.val] w fun e w' => e = .returned (.bool true) ∧ Below w.heap.size w w' := by
  obtain ⟨p, r, v⟩ := y
  clear f1
  obtain ⟨⟨d, k, vs, s⟩, ⟨d', k', xs, l⟩⟩ := x0
  obtain ⟨⟨h1, h2, hv, hs⟩, -⟩ := f0
  simp only at h1 h2 hv hs
  subst h1 h2
  have HX := hid hv
  have HV := hid hs
  obtain ⟨a1, c1, hv1, hx1, hx2, hxc⟩ := hv.form
  obtain ⟨xa, xn, xc⟩ := vs
  simp only [Sl.val, Value.slice.injEq] at hv1
  obtain ⟨rfl, rfl, rfl⟩ := hv1
  obtain ⟨a2, c2, hs1, hc1, hc2, -⟩ := hs.form
  obtain ⟨sa, sn, sc⟩ := s
  simp only [Sl.val, Value.slice.injEq] at hs1
  obtain ⟨rfl, rfl, rfl⟩ := hs1
  unfold maxLen at hx2 hc2
  simp only [Sl.val] at HX HV
  have HXC := hid hxc
  clear hv hs hxc
  unfold BfX.val BfV.val Wt.val
  simp only
  obtain ⟨N, hN⟩ : ∃ N, xs.length = N := ⟨_, rfl⟩
  obtain ⟨M, hM⟩ : ∃ M, l.length = M := ⟨_, rfl⟩
  have HN := hid hN
  have HM := hid hM
  rw [hN] at hx1 HX HXC ⊢
  rw [hM] at hc1 HV ⊢
  clear hN hM
  have HB := hid (Below.refl w.heap.size w)
  have edd : (d == d) = true := by simp
  go_enter Try.func7, Try.ntmps7
  have FL1 := hid trivial
  have FL2 := hid trivial
  go_wp2_with (first
    | (have hfl := FL1.out
       refine wpList_box rfl 25 (.tmp 0) rfl #[.int .i64 d, .bool k, .slice xa N xc, .slice sa M sc] rfl ?_
       intro v1 b h z
       have PB := hid (show BoxAt v1 w.heap.size 25 #[.int .i64 d, .bool k, .slice xa N xc, .slice sa M sc] from b)
       have HB := hid (HB.out.trans (h.mono HB.out.size))
       have hsv1 : w.heap.size + 1 ≤ v1.heap.size := by first | exact h.size | omega
       clear b h z hfl FL1)
    | (have hfl := FL2.out
       refine wpList_box rfl 27 (.tmp 1) rfl #[.int .i64 p, .int .i64 r, .int .i64 v] rfl ?_
       intro v2 b h z
       have WB := hid (show BoxAt v2 v1.heap.size 27 #[.int .i64 p, .int .i64 r, .int .i64 v] from b)
       have PB := hid (PB.out.belowAll h)
       have HB := hid (HB.out.trans (h.mono HB.out.size))
       have hsv2 : v1.heap.size + 1 ≤ v2.heap.size := by first | exact h.size | omega
       have kPB0 : v2.cell? ⟨w.heap.size, 0, none⟩ = some (.int .i64 d) := (BoxAt.cell PB.out 0).trans rfl
       have kPB2 : v2.cell? ⟨w.heap.size, 2, none⟩ = some (.slice xa N xc) := (BoxAt.cell PB.out 2).trans rfl
       have kPB3 : v2.cell? ⟨w.heap.size, 3, none⟩ = some (.slice sa M sc) := (BoxAt.cell PB.out 3).trans rfl
       clear b h z hfl FL2)
    | fail)
  refine (bfawake_any _).mono ?_
  rintro e v3 ⟨rfl, hb⟩
  have PB := hid (PB.out.belowAll hb)
  have WB := hid (WB.out.belowAll hb)
  have HB := hid (HB.out.trans (hb.mono HB.out.size))
  have hsv3 : v2.heap.size ≤ v3.heap.size := by first | exact hb.size | omega
  clear kPB0 kPB2 kPB3
  have kPB0 : v3.cell? ⟨w.heap.size, 0, none⟩ = some (.int .i64 d) := (BoxAt.cell PB.out 0).trans rfl
  have kPB2 : v3.cell? ⟨w.heap.size, 2, none⟩ = some (.slice xa N xc) := (BoxAt.cell PB.out 2).trans rfl
  have kPB3 : v3.cell? ⟨w.heap.size, 3, none⟩ = some (.slice sa M sc) := (BoxAt.cell PB.out 3).trans rfl
  clear hb
  by_cases h60N : (60 : Int) < (N : Int)
  · go_wp2
    go_ret
    exact ⟨rfl, HB.out⟩
  by_cases h60M : (60 : Int) < (M : Int)
  · go_wp2
    go_ret
    exact ⟨rfl, HB.out⟩
  have HXL := hid (show xs.length ≤ 60 by have := HN.out; omega)
  have HL := hid (show l.length ≤ 60 by have := HM.out; omega)
  go_wp2_with fail
  clear kPB0 kPB2 kPB3
  have PB := hid (BoxAt.drew PB.out)
  have WB := hid (BoxAt.drew WB.out)
  have HB := hid HB.out.drew
  have hsv4 : v3.heap.size ≤ v3.drew.heap.size := Nat.le_refl _
  refine wp_region_held_drew (S := (fun w' : World => BoxAt w' (w.heap.size) 25 #[.int .i64 d, .bool k, .slice xa N xc, .slice sa M sc])) (by kernel_rfl) (PB.out) (fun hHeld => ?_)
  generalize v3.drew = v4 at *
  refine wpAnyH_take (i := 0) (oi := { dst := some 31, op := Op.fieldAddr 25 (Operand.tmp 2) 0, type := 0, pos := "more.go:57", after := _, guard := none }) (v := ?_) rfl (by kernel_rfl) (by kernel_rfl) (by kernel_rfl) (fun _ _ _ h => h) (Or.inl ⟨by rfl, ?_⟩) (by assumption) ?_
  rotate_left
  · (intro w hSw; (try dsimp only at hSw); go_simp; try with_reducible rfl)
  simp only [Act.put, List.setIfInBounds_toArray, List.set_cons_zero, List.set_cons_succ]
  refine wpAnyH_take (i := 1) (oi := { dst := some 32, op := Op.load 3 (Operand.tmp 31), type := 3, pos := "more.go:57", after := _, guard := none }) (v := ?_) rfl (by kernel_rfl) (by kernel_rfl) (by kernel_rfl) (fun _ _ _ h => h) (Or.inl ⟨by rfl, ?_⟩) (by assumption) ?_
  rotate_left
  · (intro W hSw; (try dsimp only at hSw); have hs0S := hSw; have c0_0 : W.cell? ⟨w.heap.size, 0, none⟩ = some (.int .i64 d) := (BoxAt.cell hs0S 0).trans rfl; have c0_1 : W.cell? ⟨w.heap.size, 1, none⟩ = some (.bool k) := (BoxAt.cell hs0S 1).trans rfl; have c0_2 : W.cell? ⟨w.heap.size, 2, none⟩ = some (.slice xa N xc) := (BoxAt.cell hs0S 2).trans rfl; have c0_3 : W.cell? ⟨w.heap.size, 3, none⟩ = some (.slice sa M sc) := (BoxAt.cell hs0S 3).trans rfl; clear hs0S; go_simp; try with_reducible rfl)
  simp only [Act.put, List.setIfInBounds_toArray, List.set_cons_zero, List.set_cons_succ]
  refine wpAnyH_take (i := 2) (oi := { dst := some 33, op := Op.fieldAddr 25 (Operand.tmp 2) 1, type := 0, pos := "more.go:57", after := _, guard := none }) (v := ?_) rfl (by kernel_rfl) (by kernel_rfl) (by kernel_rfl) (fun _ _ _ h => h) (Or.inl ⟨by rfl, ?_⟩) (by assumption) ?_
  rotate_left
  · (intro w hSw; (try dsimp only at hSw); go_simp; try with_reducible rfl)
  simp only [Act.put, List.setIfInBounds_toArray, List.set_cons_zero, List.set_cons_succ]
  refine wpAnyH_take (i := 3) (oi := { dst := some 34, op := Op.load 4 (Operand.tmp 33), type := 4, pos := "more.go:57", after := _, guard := none }) (v := ?_) rfl (by kernel_rfl) (by kernel_rfl) (by kernel_rfl) (fun _ _ _ h => h) (Or.inl ⟨by rfl, ?_⟩) (by assumption) ?_
  rotate_left
  · (intro W hSw; (try dsimp only at hSw); have hs0S := hSw; have c0_0 : W.cell? ⟨w.heap.size, 0, none⟩ = some (.int .i64 d) := (BoxAt.cell hs0S 0).trans rfl; have c0_1 : W.cell? ⟨w.heap.size, 1, none⟩ = some (.bool k) := (BoxAt.cell hs0S 1).trans rfl; have c0_2 : W.cell? ⟨w.heap.size, 2, none⟩ = some (.slice xa N xc) := (BoxAt.cell hs0S 2).trans rfl; have c0_3 : W.cell? ⟨w.heap.size, 3, none⟩ = some (.slice sa M sc) := (BoxAt.cell hs0S 3).trans rfl; clear hs0S; go_simp; try with_reducible rfl)
  simp only [Act.put, List.setIfInBounds_toArray, List.set_cons_zero, List.set_cons_succ]
  refine wpAnyH_take (i := 4) (oi := { dst := some 35, op := Op.fieldAddr 25 (Operand.tmp 2) 2, type := 0, pos := "more.go:57", after := _, guard := none }) (v := ?_) rfl (by kernel_rfl) (by kernel_rfl) (by kernel_rfl) (fun _ _ _ h => h) (Or.inl ⟨by rfl, ?_⟩) (by assumption) ?_
  rotate_left
  · (intro w hSw; (try dsimp only at hSw); go_simp; try with_reducible rfl)
  simp only [Act.put, List.setIfInBounds_toArray, List.set_cons_zero, List.set_cons_succ]
  refine wpAnyH_take (i := 5) (oi := { dst := some 36, op := Op.load 22 (Operand.tmp 35), type := 22, pos := "more.go:57", after := _, guard := none }) (v := ?_) rfl (by kernel_rfl) (by kernel_rfl) (by kernel_rfl) (fun _ _ _ h => h) (Or.inl ⟨by rfl, ?_⟩) (by assumption) ?_
  rotate_left
  · (intro W hSw; (try dsimp only at hSw); have hs0S := hSw; have c0_0 : W.cell? ⟨w.heap.size, 0, none⟩ = some (.int .i64 d) := (BoxAt.cell hs0S 0).trans rfl; have c0_1 : W.cell? ⟨w.heap.size, 1, none⟩ = some (.bool k) := (BoxAt.cell hs0S 1).trans rfl; have c0_2 : W.cell? ⟨w.heap.size, 2, none⟩ = some (.slice xa N xc) := (BoxAt.cell hs0S 2).trans rfl; have c0_3 : W.cell? ⟨w.heap.size, 3, none⟩ = some (.slice sa M sc) := (BoxAt.cell hs0S 3).trans rfl; clear hs0S; go_simp; try with_reducible rfl)
  simp only [Act.put, List.setIfInBounds_toArray, List.set_cons_zero, List.set_cons_succ]
  refine wpAnyH_take (i := 7) (oi := { dst := some 38, op := Op.fieldAddr 25 (Operand.tmp 2) 3, type := 0, pos := "more.go:57", after := _, guard := none }) (v := ?_) rfl (by kernel_rfl) (by kernel_rfl) (by kernel_rfl) (fun _ _ _ h => h) (Or.inl ⟨by rfl, ?_⟩) (by assumption) ?_
  rotate_left
  · (intro w hSw; (try dsimp only at hSw); go_simp; try with_reducible rfl)
  simp only [Act.put, List.setIfInBounds_toArray, List.set_cons_zero, List.set_cons_succ]
  refine wpAnyH_take (i := 8) (oi := { dst := some 39, op := Op.load 23 (Operand.tmp 38), type := 23, pos := "more.go:57", after := _, guard := none }) (v := ?_) rfl (by kernel_rfl) (by kernel_rfl) (by kernel_rfl) (fun _ _ _ h => h) (Or.inl ⟨by rfl, ?_⟩) (by assumption) ?_
  rotate_left
  · (intro W hSw; (try dsimp only at hSw); have hs0S := hSw; have c0_0 : W.cell? ⟨w.heap.size, 0, none⟩ = some (.int .i64 d) := (BoxAt.cell hs0S 0).trans rfl; have c0_1 : W.cell? ⟨w.heap.size, 1, none⟩ = some (.bool k) := (BoxAt.cell hs0S 1).trans rfl; have c0_2 : W.cell? ⟨w.heap.size, 2, none⟩ = some (.slice xa N xc) := (BoxAt.cell hs0S 2).trans rfl; have c0_3 : W.cell? ⟨w.heap.size, 3, none⟩ = some (.slice sa M sc) := (BoxAt.cell hs0S 3).trans rfl; clear hs0S; go_simp; try with_reducible rfl)
  simp only [Act.put, List.setIfInBounds_toArray, List.set_cons_zero, List.set_cons_succ]
  refine wpAnyH_ready (rs := [6, 11]) (by kernel_rfl) (by simp) (AllReadyH.cons (o := { dst := some 37, op := Op.call { callee := Callee.builtin Builtin.append, args := #[Operand.const (Value.slice none 0 0), Operand.tmp 36], argTypes := #[22, 22] }, type := 22, pos := "more.go:57", after := _, guard := none }) rfl (fun K1009 hK1009 => ?b1009_6) (AllReadyH.cons (o := { dst := some 6, op := Op.alloc 25, type := 0, pos := "more.go:57", after := _, guard := none }) rfl (fun K1009 hK1009 => ?b1009_11) AllReadyH.nil))
  case' b1009_6 =>
    refine step_app_nilI rfl (.tmp 36) rfl _ (xs) rfl (HX.out.below HB.out) (by have := HXL.out; omega) ?_
    intro uv5 v5 ho h
    obtain ⟨qv5, rfl, -⟩ := ho.sl
    have PB := hid (PB.out.belowAll h)
    have WB := hid (WB.out.belowAll h)
    have HB := hid (HB.out.trans (h.mono HB.out.size))
    have hsv5 : v4.heap.size ≤ v5.heap.size := by first | exact h.size | omega
    have HWV := hid ho
    clear ho h
    refine hK1009.out _ _ (PB.out) (fun hHeld1009 => ?_)
    clear hK1009 K1009
    try simp only [Act.put, List.setIfInBounds_toArray, List.set_cons_zero, List.set_cons_succ]
    refine wpAnyH_ready (rs := [9, 11]) (by kernel_rfl) (by simp) (AllReadyH.cons (o := { dst := some 40, op := Op.call { callee := Callee.builtin Builtin.append, args := #[Operand.const (Value.slice none 0 0), Operand.tmp 39], argTypes := #[23, 23] }, type := 23, pos := "more.go:57", after := _, guard := none }) rfl (fun K1010 hK1010 => ?b1010_9) (AllReadyH.cons (o := { dst := some 6, op := Op.alloc 25, type := 0, pos := "more.go:57", after := _, guard := none }) rfl (fun K1010 hK1010 => ?b1010_11) AllReadyH.nil))
    case' b1010_9 =>
      refine step_app_nilWt rfl (.tmp 39) rfl _ l rfl (HV.out.below HB.out) (by have := HL.out; omega) ?_
      intro uv6 v6 ho h
      obtain ⟨qv6, rfl, -⟩ := ho.sl
      have PB := hid (PB.out.belowAll h)
      have WB := hid (WB.out.belowAll h)
      have HWV := hid (HWV.out.below h)
      have HB := hid (HB.out.trans (h.mono HB.out.size))
      have hsv6 : v5.heap.size ≤ v6.heap.size := by first | exact h.size | omega
      have HWL := hid ho
      clear ho h
      refine hK1010.out _ _ (PB.out) (fun hHeld1010 => ?_)
      clear hK1010 K1010
      try simp only [Act.put, List.setIfInBounds_toArray, List.set_cons_zero, List.set_cons_succ]
      refine wpAnyH_take (i := 10) (oi := { dst := some 41, op := Op.build 25 #[(0, Operand.tmp 32), (1, Operand.tmp 34), (2, Operand.tmp 37), (3, Operand.tmp 40)], type := 25, pos := "more.go:57", after := _, guard := none }) (v := ?_) rfl (by kernel_rfl) (by kernel_rfl) (by kernel_rfl) (fun _ _ _ h => h) (Or.inl ⟨by rfl, ?_⟩) (by assumption) ?_
      rotate_left
      · (intro w hSw; (try dsimp only at hSw); go_simp; try with_reducible rfl)
      simp only [Act.put, List.setIfInBounds_toArray, List.set_cons_zero, List.set_cons_succ]
      refine wpAnyH_ready (rs := [11]) (by kernel_rfl) (by simp) (AllReadyH.cons (o := { dst := some 6, op := Op.alloc 25, type := 0, pos := "more.go:57", after := _, guard := none }) rfl (fun K1012 hK1012 => ?_) AllReadyH.nil)
      refine step_new rfl 25 rfl _ Try.zeroBf ?_
      intro v7 b h z
      have SB := hid (show BoxAt v7 v6.heap.size 25 #[.int .i64 0, .bool false, .slice none 0 0, .slice none 0 0] from b)
      have PB := hid (PB.out.belowAll h)
      have WB := hid (WB.out.belowAll h)
      have HWV := hid (HWV.out.below h)
      have HWL := hid (HWL.out.below h)
      have HB := hid (HB.out.trans (h.mono HB.out.size))
      have hsv7 : v6.heap.size + 1 ≤ v7.heap.size := by first | exact h.size | omega
      clear b h z
      refine hK1012.out _ _ (PB.out) (fun hHeld1012 => ?_)
      clear hK1012 K1012
      try simp only [Act.put, List.setIfInBounds_toArray, List.set_cons_zero, List.set_cons_succ]
      refine wpAnyH_ready (rs := [12]) (by kernel_rfl) (by simp) (AllReadyH.cons (o := { dst := none, op := Op.store 25 (Operand.tmp 6) (Operand.tmp 41), type := 0, pos := "more.go:57", after := _, guard := none }) rfl (fun K1013 hK1013 => ?_) AllReadyH.nil)
      refine step_store_whole rfl 25 _ _ rfl (v6.heap.size) rfl [.int .i64 d, .bool k, .slice qv5.a qv5.n qv5.c, .slice qv6.a qv6.n qv6.c] rfl _ _ SB.out rfl Try.infoBf (by simp [Value.oneCell']) ?_
      intro v8 b g z
      have hsv8 : v7.heap.size ≤ v8.heap.size := by omega
      have HWV := hid (HWV.out.put g SB.out (by decide))
      have HWL := hid (HWL.out.put g SB.out (by decide))
      have SB := hid (show BoxAt v8 (v6.heap.size) 25 #[.int .i64 d, .bool k, .slice qv5.a qv5.n qv5.c, .slice qv6.a qv6.n qv6.c] from b)
      have PB := hid (PB.out.grown g (fun e => by have := Option.some.inj e; omega))
      have WB := hid (WB.out.grown g (fun e => by have := Option.some.inj e; omega))
      have HB := hid (HB.out.trans (grown_below g (by omega) (by omega)))
      clear b g z
      refine hK1013.out _ _ (PB.out) (fun hHeld1013 => ?_)
      clear hK1013 K1013
      try simp only [Act.put]
      refine wpAnyH_done (by kernel_rfl) ?_ _
      clear hHeld hHeld1009 hHeld1010 hHeld1012 hHeld1013
      have kPB0 : v8.cell? ⟨w.heap.size, 0, none⟩ = some (.int .i64 d) := (BoxAt.cell PB.out 0).trans rfl
      have kPB2 : v8.cell? ⟨w.heap.size, 2, none⟩ = some (.slice xa N xc) := (BoxAt.cell PB.out 2).trans rfl
      have kPB3 : v8.cell? ⟨w.heap.size, 3, none⟩ = some (.slice sa M sc) := (BoxAt.cell PB.out 3).trans rfl
      go_wp2_with (first
        | (refine wpList_load_box rfl 25 _ rfl (w.heap.size) rfl _ _ PB.out _ Try.underlying25 Try.infoBf ?_)
        | (refine wpList_load_box rfl 27 _ rfl (v1.heap.size) rfl _ _ WB.out _ Try.underlying27 Try.infoWt ?_)
        | fail)
      have hwvlt := hid (fun k hk => (HWV.out.lt k hk).2)
      refine (send_any d k p r v true (vs := ⟨xa, N, xc⟩) (s := ⟨sa, M, sc⟩) (HX.out.below HB.out) (HV.out.below HB.out) (by have := HXL.out; omega) (by have := HL.out; omega)).mono ?_
      rintro e v9 ⟨x3, u3, q3, rfl, hc, hu, hq, hb⟩
      have PB := hid (PB.out.belowAll hb)
      have WB := hid (WB.out.belowAll hb)
      have SB := hid (SB.out.belowAll hb)
      have HWV := hid (HWV.out.below hb)
      have HWL := hid (HWL.out.below hb)
      have HB := hid (HB.out.trans (hb.mono HB.out.size))
      have hsv9 : v8.heap.size ≤ v9.heap.size := by first | exact hb.size | omega
      have hln := Nat.le_trans (sendV_len d xs l v) (Nat.succ_le_succ HXL.out)
      have hlm := Nat.le_trans (sendL_len d k xs l ⟨p, r, v⟩ true) (Nat.succ_le_succ HL.out)
      obtain ⟨SC, hSC⟩ : ∃ c, sendC d xs l true = c := ⟨_, rfl⟩
      rw [hSC]
      obtain ⟨V1, hV1⟩ : ∃ c, sendV d xs l v = c := ⟨_, rfl⟩
      rw [hV1] at hc hln
      obtain ⟨L1, hL1⟩ : ∃ c, sendL d k xs l ⟨p, r, v⟩ true = c := ⟨_, rfl⟩
      rw [hL1] at hu hlm
      have HC1 := hid hc
      have HU1 := hid hu
      have HLN := hid hln
      have HLM := hid hlm
      clear hc hu hq hln hlm hSC hV1 hL1
      clear kPB0 kPB2 kPB3
      have kPB0 : v9.cell? ⟨w.heap.size, 0, none⟩ = some (.int .i64 d) := (BoxAt.cell PB.out 0).trans rfl
      have kPB2 : v9.cell? ⟨w.heap.size, 2, none⟩ = some (.slice xa N xc) := (BoxAt.cell PB.out 2).trans rfl
      have kPB3 : v9.cell? ⟨w.heap.size, 3, none⟩ = some (.slice sa M sc) := (BoxAt.cell PB.out 3).trans rfl
      clear hb
      have FL3 := hid trivial
      have FL4 := hid trivial
      go_wp2_with (first
        | (have hfl := FL3.out
           refine wpList_new rfl 25 rfl _ Try.zeroBf ?_
           intro v10 b h z
           have XB := hid (show BoxAt v10 v9.heap.size 25 #[.int .i64 0, .bool false, .slice none 0 0, .slice none 0 0] from b)
           have PB := hid (PB.out.belowAll h)
           have WB := hid (WB.out.belowAll h)
           have SB := hid (SB.out.belowAll h)
           have HWV := hid (HWV.out.below h)
           have HWL := hid (HWL.out.below h)
           have HC1 := hid (HC1.out.below h)
           have HU1 := hid (HU1.out.below h)
           have HB := hid (HB.out.trans (h.mono HB.out.size))
           have hsv10 : v9.heap.size + 1 ≤ v10.heap.size := by first | exact h.size | omega
           clear kPB0 kPB2 kPB3
           have kPB0 : v10.cell? ⟨w.heap.size, 0, none⟩ = some (.int .i64 d) := (BoxAt.cell PB.out 0).trans rfl
           have kPB2 : v10.cell? ⟨w.heap.size, 2, none⟩ = some (.slice xa N xc) := (BoxAt.cell PB.out 2).trans rfl
           have kPB3 : v10.cell? ⟨w.heap.size, 3, none⟩ = some (.slice sa M sc) := (BoxAt.cell PB.out 3).trans rfl
           clear b h z hfl FL3)
        | (have hfl := FL4.out
           refine wpList_store_whole rfl 25 _ _ rfl rfl (v9.heap.size) rfl [.int .i64 d, .bool k, .slice x3.a x3.n x3.c, .slice u3.a u3.n u3.c] rfl _ _ XB.out rfl Try.infoBf (by simp [Value.oneCell']) ?_
           intro v11 b g z
           have hsv11 : v10.heap.size ≤ v11.heap.size := by omega
           have HWV := hid (HWV.out.put g XB.out (by decide))
           have HWL := hid (HWL.out.put g XB.out (by decide))
           have HC1 := hid (HC1.out.put g XB.out (by decide))
           have HU1 := hid (HU1.out.put g XB.out (by decide))
           have XB := hid (show BoxAt v11 (v9.heap.size) 25 #[.int .i64 d, .bool k, .slice x3.a x3.n x3.c, .slice u3.a u3.n u3.c] from b)
           have PB := hid (PB.out.grown g (fun e => by have := Option.some.inj e; omega))
           have WB := hid (WB.out.grown g (fun e => by have := Option.some.inj e; omega))
           have SB := hid (SB.out.grown g (fun e => by have := Option.some.inj e; omega))
           have HB := hid (HB.out.trans (grown_below g (by omega) (by omega)))
           clear kPB0 kPB2 kPB3
           have kPB0 : v11.cell? ⟨w.heap.size, 0, none⟩ = some (.int .i64 d) := (BoxAt.cell PB.out 0).trans rfl
           have kPB2 : v11.cell? ⟨w.heap.size, 2, none⟩ = some (.slice xa N xc) := (BoxAt.cell PB.out 2).trans rfl
           have kPB3 : v11.cell? ⟨w.heap.size, 3, none⟩ = some (.slice sa M sc) := (BoxAt.cell PB.out 3).trans rfl
           clear b g z hfl FL4)
        | (refine wpList_load_box rfl 25 _ rfl (w.heap.size) rfl _ _ PB.out _ Try.underlying25 Try.infoBf ?_)
        | fail)
      refine (send_any d k 0 0 77 true (vs := ⟨xa, N, xc⟩) (s := ⟨sa, M, sc⟩) (HX.out.below HB.out) (HV.out.below HB.out) (by have := HXL.out; omega) (by have := HL.out; omega)).mono ?_
      rintro e v12 ⟨x4, u4, q4, rfl, hc, hu, hq, hb⟩
      have PB := hid (PB.out.belowAll hb)
      have WB := hid (WB.out.belowAll hb)
      have SB := hid (SB.out.belowAll hb)
      have XB := hid (XB.out.belowAll hb)
      have HWV := hid (HWV.out.below hb)
      have HWL := hid (HWL.out.below hb)
      have HC1 := hid (HC1.out.below hb)
      have HU1 := hid (HU1.out.below hb)
      have HB := hid (HB.out.trans (hb.mono HB.out.size))
      have hsv12 : v11.heap.size ≤ v12.heap.size := by first | exact hb.size | omega
      obtain ⟨SD, hSD⟩ : ∃ c, sendC d xs l true = c := ⟨_, rfl⟩
      rw [hSD]
      clear hc hu hq hSD
      clear kPB0 kPB2 kPB3
      have kPB0 : v12.cell? ⟨w.heap.size, 0, none⟩ = some (.int .i64 d) := (BoxAt.cell PB.out 0).trans rfl
      have kPB2 : v12.cell? ⟨w.heap.size, 2, none⟩ = some (.slice xa N xc) := (BoxAt.cell PB.out 2).trans rfl
      have kPB3 : v12.cell? ⟨w.heap.size, 3, none⟩ = some (.slice sa M sc) := (BoxAt.cell PB.out 3).trans rfl
      clear hb
      go_wp2_with (first
        | (refine wpList_load_box rfl 25 _ rfl (v9.heap.size) rfl _ _ XB.out _ Try.underlying25 Try.infoBf ?_)
        | (refine wpList_load_box rfl 27 _ rfl (v1.heap.size) rfl _ _ WB.out _ Try.underlying27 Try.infoWt ?_)
        | fail)
      refine (take_any d k p r v true (vs := x3) (s := u3) (xs := V1) (l := L1) HC1.out.sees HU1.out.sees (by have := HLN.out; omega) (by have := HLM.out; omega)).mono ?_
      rintro e v13 ⟨x5, u5, q5, rfl, hc, hu, hq, hb⟩
      have PB := hid (PB.out.belowAll hb)
      have WB := hid (WB.out.belowAll hb)
      have SB := hid (SB.out.belowAll hb)
      have XB := hid (XB.out.belowAll hb)
      have HWV := hid (HWV.out.below hb)
      have HWL := hid (HWL.out.below hb)
      have HC1 := hid (HC1.out.below hb)
      have HU1 := hid (HU1.out.below hb)
      have HB := hid (HB.out.trans (hb.mono HB.out.size))
      have hsv13 : v12.heap.size ≤ v13.heap.size := by first | exact hb.size | omega
      obtain ⟨TC, hTC⟩ : ∃ c, takeC V1 true = c := ⟨_, rfl⟩
      rw [hTC]
      obtain ⟨TX, hTX⟩ : ∃ c, takeX V1 = c := ⟨_, rfl⟩
      rw [hTX]
      obtain ⟨L2, hL2⟩ : ∃ c, takeV V1 L1 = c := ⟨_, rfl⟩
      rw [hL2] at hc
      have HC2 := hid hc
      have HCN := hid hc.n
      have HCL := hid hc.lt
      obtain ⟨ua, un, uc⟩ := x5
      clear hc hu hq hTC hTX hL2 HC1 HU1 HLN HLM
      clear kPB0 kPB2 kPB3
      have kPB0 : v13.cell? ⟨w.heap.size, 0, none⟩ = some (.int .i64 d) := (BoxAt.cell PB.out 0).trans rfl
      have kPB2 : v13.cell? ⟨w.heap.size, 2, none⟩ = some (.slice xa N xc) := (BoxAt.cell PB.out 2).trans rfl
      have kPB3 : v13.cell? ⟨w.heap.size, 3, none⟩ = some (.slice sa M sc) := (BoxAt.cell PB.out 3).trans rfl
      clear hb
      have FL5 := hid trivial
      have FL6 := hid trivial
      go_wp2_with (first
        | (have hfl := FL5.out
           refine wpList_new rfl 25 rfl _ Try.zeroBf ?_
           intro v14 b h z
           have YB := hid (show BoxAt v14 v13.heap.size 25 #[.int .i64 0, .bool false, .slice none 0 0, .slice none 0 0] from b)
           have PB := hid (PB.out.belowAll h)
           have WB := hid (WB.out.belowAll h)
           have SB := hid (SB.out.belowAll h)
           have XB := hid (XB.out.belowAll h)
           have HWV := hid (HWV.out.below h)
           have HWL := hid (HWL.out.below h)
           have HC2 := hid (HC2.out.below h)
           have HB := hid (HB.out.trans (h.mono HB.out.size))
           have hsv14 : v13.heap.size + 1 ≤ v14.heap.size := by first | exact h.size | omega
           clear kPB0 kPB2 kPB3
           have kPB0 : v14.cell? ⟨w.heap.size, 0, none⟩ = some (.int .i64 d) := (BoxAt.cell PB.out 0).trans rfl
           have kPB2 : v14.cell? ⟨w.heap.size, 2, none⟩ = some (.slice xa N xc) := (BoxAt.cell PB.out 2).trans rfl
           have kPB3 : v14.cell? ⟨w.heap.size, 3, none⟩ = some (.slice sa M sc) := (BoxAt.cell PB.out 3).trans rfl
           clear b h z hfl FL5)
        | (have hfl := FL6.out
           refine wpList_store_whole rfl 25 _ _ rfl rfl (v13.heap.size) rfl [.int .i64 d, .bool k, .slice ua un uc, .slice u5.a u5.n u5.c] rfl _ _ YB.out rfl Try.infoBf (by simp [Value.oneCell']) ?_
           intro v15 b g z
           have hsv15 : v14.heap.size ≤ v15.heap.size := by omega
           have HWV := hid (HWV.out.put g YB.out (by decide))
           have HWL := hid (HWL.out.put g YB.out (by decide))
           have HC2 := hid (HC2.out.put g YB.out (by decide))
           have YB := hid (show BoxAt v15 (v13.heap.size) 25 #[.int .i64 d, .bool k, .slice ua un uc, .slice u5.a u5.n u5.c] from b)
           have PB := hid (PB.out.grown g (fun e => by have := Option.some.inj e; omega))
           have WB := hid (WB.out.grown g (fun e => by have := Option.some.inj e; omega))
           have SB := hid (SB.out.grown g (fun e => by have := Option.some.inj e; omega))
           have XB := hid (XB.out.grown g (fun e => by have := Option.some.inj e; omega))
           have HB := hid (HB.out.trans (grown_below g (by omega) (by omega)))
           clear kPB0 kPB2 kPB3
           have kPB0 : v15.cell? ⟨w.heap.size, 0, none⟩ = some (.int .i64 d) := (BoxAt.cell PB.out 0).trans rfl
           have kPB2 : v15.cell? ⟨w.heap.size, 2, none⟩ = some (.slice xa N xc) := (BoxAt.cell PB.out 2).trans rfl
           have kPB3 : v15.cell? ⟨w.heap.size, 3, none⟩ = some (.slice sa M sc) := (BoxAt.cell PB.out 3).trans rfl
           clear b g z hfl FL6
           refine Hid.out ?_)
        | fail)
      refine hid ?_
      clear kPB0 kPB2 kPB3
      have kPB0 : v15.cell? ⟨w.heap.size, 0, none⟩ = some (.int .i64 d) := (BoxAt.cell PB.out 0).trans rfl
      have kPB2 : v15.cell? ⟨w.heap.size, 2, none⟩ = some (.slice xa N xc) := (BoxAt.cell PB.out 2).trans rfl
      have kPB3 : v15.cell? ⟨w.heap.size, 3, none⟩ = some (.slice sa M sc) := (BoxAt.cell PB.out 3).trans rfl
      have kYB2 : v15.cell? ⟨v13.heap.size, 2, none⟩ = some (.slice ua un uc) := (BoxAt.cell YB.out 2).trans rfl
      by_cases h0 : 0 < un
      · have hL0 : 0 < L2.length := by have : un = L2.length := HCN.out; omega
        obtain ⟨G, cap, hgv, -⟩ := owns_formQ HC2.out hL0
        simp only [Sl.val, Value.slice.injEq] at hgv
        obtain ⟨rfl, -, -⟩ := hgv
        obtain ⟨hG1, hG2⟩ := HCL.out G rfl
        obtain ⟨E, hE⟩ : ∃ E, L2.getD 0 0 = E := ⟨_, rfl⟩
        have HE := hid hE
        have hG3 : v13.heap.size ≤ v15.heap.size := by omega
        have hu0 : (0 : Int) < (un : Int) := by omega
        have hu1 : (1 : Int) ≤ (un : Int) := by omega
        clear hE
        go_wp2_with fail
        clear kPB0 kPB2 kPB3 kYB2
        have PB := hid (BoxAt.drew PB.out)
        have WB := hid (BoxAt.drew WB.out)
        have SB := hid (BoxAt.drew SB.out)
        have XB := hid (BoxAt.drew XB.out)
        have YB := hid (BoxAt.drew YB.out)
        have HWV := hid (HWV.out.below ((Below.refl v15.heap.size v15).drew))
        have HWL := hid (HWL.out.below ((Below.refl v15.heap.size v15).drew))
        have HC2 := hid (HC2.out.below ((Below.refl v15.heap.size v15).drew))
        have HB := hid HB.out.drew
        have hsv16 : v15.heap.size ≤ v15.drew.heap.size := Nat.le_refl _
        refine wp_region_held_drew (S := (fun w' : World => BoxAt w' (v13.heap.size) 25 #[.int .i64 d, .bool k, .slice (some ⟨G, 0, none⟩) un uc, .slice u5.a u5.n u5.c])) (by kernel_rfl) (YB.out) (fun hHeld => ?_)
        generalize v15.drew = v16 at *
        refine wpAnyH_take (i := 0) (oi := { dst := some 64, op := Op.fieldAddr 25 (Operand.tmp 10) 2, type := 0, pos := "more.go:62", after := _, guard := none }) (v := ?_) rfl (by kernel_rfl) (by kernel_rfl) (by kernel_rfl) (fun _ _ _ h => h) (Or.inl ⟨by rfl, ?_⟩) (by assumption) ?_
        rotate_left
        · (intro w hSw; (try dsimp only at hSw); go_simp; try with_reducible rfl)
        simp only [Act.put, List.setIfInBounds_toArray, List.set_cons_zero, List.set_cons_succ]
        refine wpAnyH_take (i := 1) (oi := { dst := some 65, op := Op.load 22 (Operand.tmp 64), type := 22, pos := "more.go:62", after := _, guard := none }) (v := ?_) rfl (by kernel_rfl) (by kernel_rfl) (by kernel_rfl) (fun _ _ _ h => h) (Or.inl ⟨by rfl, ?_⟩) (by assumption) ?_
        rotate_left
        · (intro W hSw; (try dsimp only at hSw); have hs0S := hSw; have c0_0 : W.cell? ⟨v13.heap.size, 0, none⟩ = some (.int .i64 d) := (BoxAt.cell hs0S 0).trans rfl; have c0_1 : W.cell? ⟨v13.heap.size, 1, none⟩ = some (.bool k) := (BoxAt.cell hs0S 1).trans rfl; have c0_2 : W.cell? ⟨v13.heap.size, 2, none⟩ = some (.slice (some ⟨G, 0, none⟩) un uc) := (BoxAt.cell hs0S 2).trans rfl; have c0_3 : W.cell? ⟨v13.heap.size, 3, none⟩ = some (.slice u5.a u5.n u5.c) := (BoxAt.cell hs0S 3).trans rfl; clear hs0S; go_simp; try with_reducible rfl)
        simp only [Act.put, List.setIfInBounds_toArray, List.set_cons_zero, List.set_cons_succ]
        refine wpAnyH_take (i := 2) (oi := { dst := some 66, op := Op.fieldAddr 25 (Operand.tmp 10) 2, type := 0, pos := "more.go:62", after := _, guard := none }) (v := ?_) rfl (by kernel_rfl) (by kernel_rfl) (by kernel_rfl) (fun _ _ _ h => h) (Or.inl ⟨by rfl, ?_⟩) (by assumption) ?_
        rotate_left
        · (intro w hSw; (try dsimp only at hSw); go_simp; try with_reducible rfl)
        simp only [Act.put, List.setIfInBounds_toArray, List.set_cons_zero, List.set_cons_succ]
        refine wpAnyH_take (i := 3) (oi := { dst := some 67, op := Op.load 22 (Operand.tmp 66), type := 22, pos := "more.go:62", after := _, guard := none }) (v := ?_) rfl (by kernel_rfl) (by kernel_rfl) (by kernel_rfl) (fun _ _ _ h => h) (Or.inl ⟨by rfl, ?_⟩) (by assumption) ?_
        rotate_left
        · (intro W hSw; (try dsimp only at hSw); have hs0S := hSw; have c0_0 : W.cell? ⟨v13.heap.size, 0, none⟩ = some (.int .i64 d) := (BoxAt.cell hs0S 0).trans rfl; have c0_1 : W.cell? ⟨v13.heap.size, 1, none⟩ = some (.bool k) := (BoxAt.cell hs0S 1).trans rfl; have c0_2 : W.cell? ⟨v13.heap.size, 2, none⟩ = some (.slice (some ⟨G, 0, none⟩) un uc) := (BoxAt.cell hs0S 2).trans rfl; have c0_3 : W.cell? ⟨v13.heap.size, 3, none⟩ = some (.slice u5.a u5.n u5.c) := (BoxAt.cell hs0S 3).trans rfl; clear hs0S; go_simp; try with_reducible rfl)
        simp only [Act.put, List.setIfInBounds_toArray, List.set_cons_zero, List.set_cons_succ]
        refine wpAnyH_take (i := 4) (oi := { dst := some 68, op := Op.indexAddr 22 (Operand.tmp 67) (Operand.const (Value.int IntKind.i64 0)), type := 0, pos := "more.go:62", after := _, guard := none }) (v := ?_) rfl (by kernel_rfl) (by kernel_rfl) (by kernel_rfl) (fun _ _ _ h => h) (Or.inl ⟨by rfl, ?_⟩) (by assumption) ?_
        rotate_left
        · (intro w hSw; (try dsimp only at hSw); go_simp; try with_reducible rfl)
        simp only [Act.put, List.setIfInBounds_toArray, List.set_cons_zero, List.set_cons_succ]
        refine wpAnyH_ready (rs := [5]) (by kernel_rfl) (by simp) (AllReadyH.cons (o := { dst := some 69, op := Op.load 3 (Operand.tmp 68), type := 3, pos := "more.go:62", after := _, guard := none }) rfl (fun K1006 hK1006 => ?_) AllReadyH.nil)
        have cG : v16.cell? ⟨G, 0, none⟩ = some (.int .i64 E) := (by rw [← HE.out]; exact OI.at HC2.out 0 hL0)
        go_simp
        clear cG
        refine hK1006.out _ _ (YB.out) (fun hHeld1006 => ?_)
        clear hK1006 K1006
        try simp only [Act.put, List.setIfInBounds_toArray, List.set_cons_zero, List.set_cons_succ]
        refine wpAnyH_take (i := 6) (oi := { dst := some 70, op := Op.binOp BinOp.add 3 (Operand.tmp 69) (Operand.const (Value.int IntKind.i64 1)) 3, type := 3, pos := "more.go:62", after := _, guard := none }) (v := ?_) rfl (by kernel_rfl) (by kernel_rfl) (by kernel_rfl) (fun _ _ _ h => h) (Or.inl ⟨by rfl, ?_⟩) (by assumption) ?_
        rotate_left
        · (intro W hSw; (try dsimp only at hSw); have hs0S := hSw; clear hs0S; go_simp; try with_reducible rfl)
        simp only [Act.put, List.setIfInBounds_toArray, List.set_cons_zero, List.set_cons_succ]
        refine wpAnyH_take (i := 7) (oi := { dst := some 71, op := Op.indexAddr 22 (Operand.tmp 65) (Operand.const (Value.int IntKind.i64 0)), type := 0, pos := "more.go:62", after := _, guard := none }) (v := ?_) rfl (by kernel_rfl) (by kernel_rfl) (by kernel_rfl) (fun _ _ _ h => h) (Or.inl ⟨by rfl, ?_⟩) (by assumption) ?_
        rotate_left
        · (intro w hSw; (try dsimp only at hSw); go_simp; try with_reducible rfl)
        simp only [Act.put, List.setIfInBounds_toArray, List.set_cons_zero, List.set_cons_succ]
        refine wpAnyH_ready (rs := [8]) (by kernel_rfl) (by simp) (AllReadyH.cons (o := { dst := none, op := Op.store 3 (Operand.tmp 71) (Operand.tmp 70), type := 0, pos := "more.go:62", after := _, guard := none }) rfl (fun K1009 hK1009 => ?_) AllReadyH.nil)
        refine step_set_I rfl 3 _ _ rfl _ G _ _ L2 HC2.out 0 hL0 rfl _ rfl rfl rfl (by kernel_rfl) ?_
        intro v17 g z
        have hsv17 : v16.heap.size ≤ v17.heap.size := by omega
        have PB := hid (PB.out.grown g (fun e => by have := Option.some.inj e; omega))
        have WB := hid (WB.out.grown g (fun e => by have := Option.some.inj e; omega))
        have SB := hid (SB.out.grown g (fun e => by have := Option.some.inj e; omega))
        have XB := hid (XB.out.grown g (fun e => by have := Option.some.inj e; omega))
        have YB := hid (YB.out.grown g (fun e => by have := Option.some.inj e; omega))
        have HWV := hid (HWV.out.far g (fun k hk => by have := hwvlt.out k hk; omega))
        have HWL := hid (HWL.out.over HC2.out g)
        have HB := hid (HB.out.trans (grown_below g (by omega) (by omega)))
        clear g z
        refine hK1009.out _ _ (YB.out) (fun hHeld1009 => ?_)
        clear hK1009 K1009
        try simp only [Act.put]
        refine wpAnyH_done (by kernel_rfl) ?_ _
        clear hHeld hHeld1006 hHeld1009
        have kPB0 : v17.cell? ⟨w.heap.size, 0, none⟩ = some (.int .i64 d) := (BoxAt.cell PB.out 0).trans rfl
        have kPB2 : v17.cell? ⟨w.heap.size, 2, none⟩ = some (.slice xa N xc) := (BoxAt.cell PB.out 2).trans rfl
        have kPB3 : v17.cell? ⟨w.heap.size, 3, none⟩ = some (.slice sa M sc) := (BoxAt.cell PB.out 3).trans rfl
        have kYB2 : v17.cell? ⟨v13.heap.size, 2, none⟩ = some (.slice (some ⟨G, 0, none⟩) un uc) := (BoxAt.cell YB.out 2).trans rfl
        clear HC2
        go_wp2_with (first
          | (refine wpList_load_box rfl 25 _ rfl (w.heap.size) rfl _ _ PB.out _ Try.underlying25 Try.infoBf ?_)
          | (refine wpList_load_box rfl 25 _ rfl (v6.heap.size) rfl _ _ SB.out _ Try.underlying25 Try.infoBf ?_)
          | fail)
        refine (rbsame_any d k (vs := ⟨xa, N, xc⟩) (ws := qv5) (s := ⟨sa, M, sc⟩) (r := qv6) (HX.out.below HB.out) HWV.out.sees (HV.out.below HB.out) HWL.out.sees).mono ?_
        rintro e v18 ⟨rfl, hb⟩
        have PB := hid (PB.out.belowAll hb)
        have WB := hid (WB.out.belowAll hb)
        have SB := hid (SB.out.belowAll hb)
        have XB := hid (XB.out.belowAll hb)
        have YB := hid (YB.out.belowAll hb)
        have HWV := hid (HWV.out.below hb)
        have HWL := hid (HWL.out.below hb)
        have HB := hid (HB.out.trans (hb.mono HB.out.size))
        have hsv18 : v17.heap.size ≤ v18.heap.size := by first | exact hb.size | omega
        clear kPB0 kPB2 kPB3 kYB2
        have kPB0 : v18.cell? ⟨w.heap.size, 0, none⟩ = some (.int .i64 d) := (BoxAt.cell PB.out 0).trans rfl
        have kPB2 : v18.cell? ⟨w.heap.size, 2, none⟩ = some (.slice xa N xc) := (BoxAt.cell PB.out 2).trans rfl
        have kPB3 : v18.cell? ⟨w.heap.size, 3, none⟩ = some (.slice sa M sc) := (BoxAt.cell PB.out 3).trans rfl
        have kYB2 : v18.cell? ⟨v13.heap.size, 2, none⟩ = some (.slice (some ⟨G, 0, none⟩) un uc) := (BoxAt.cell YB.out 2).trans rfl
        clear hb
        clear kPB0 kPB2 kPB3 kYB2
        have kPB0 : v18.cell? ⟨w.heap.size, 0, none⟩ = some (.int .i64 d) := (BoxAt.cell PB.out 0).trans rfl
        have kXB0 : v18.cell? ⟨v9.heap.size, 0, none⟩ = some (.int .i64 d) := (BoxAt.cell XB.out 0).trans rfl
        have kYB2 : v18.cell? ⟨v13.heap.size, 2, none⟩ = some (.slice (some ⟨G, 0, none⟩) un uc) := (BoxAt.cell YB.out 2).trans rfl
        go_wp2
        go_ret
        exact ⟨rfl, HB.out⟩
      · have hu0 : ¬ (0 : Int) < (un : Int) := by omega
        go_wp2_with (first
          | (refine wpList_load_box rfl 25 _ rfl (w.heap.size) rfl _ _ PB.out _ Try.underlying25 Try.infoBf ?_)
          | (refine wpList_load_box rfl 25 _ rfl (v6.heap.size) rfl _ _ SB.out _ Try.underlying25 Try.infoBf ?_)
          | fail)
        refine (rbsame_any d k (vs := ⟨xa, N, xc⟩) (ws := qv5) (s := ⟨sa, M, sc⟩) (r := qv6) (HX.out.below HB.out) HWV.out.sees (HV.out.below HB.out) HWL.out.sees).mono ?_
        rintro e v16 ⟨rfl, hb⟩
        have PB := hid (PB.out.belowAll hb)
        have WB := hid (WB.out.belowAll hb)
        have SB := hid (SB.out.belowAll hb)
        have XB := hid (XB.out.belowAll hb)
        have YB := hid (YB.out.belowAll hb)
        have HWV := hid (HWV.out.below hb)
        have HWL := hid (HWL.out.below hb)
        have HC2 := hid (HC2.out.below hb)
        have HB := hid (HB.out.trans (hb.mono HB.out.size))
        have hsv16 : v15.heap.size ≤ v16.heap.size := by first | exact hb.size | omega
        clear kPB0 kPB2 kPB3 kYB2
        have kPB0 : v16.cell? ⟨w.heap.size, 0, none⟩ = some (.int .i64 d) := (BoxAt.cell PB.out 0).trans rfl
        have kPB2 : v16.cell? ⟨w.heap.size, 2, none⟩ = some (.slice xa N xc) := (BoxAt.cell PB.out 2).trans rfl
        have kPB3 : v16.cell? ⟨w.heap.size, 3, none⟩ = some (.slice sa M sc) := (BoxAt.cell PB.out 3).trans rfl
        have kYB2 : v16.cell? ⟨v13.heap.size, 2, none⟩ = some (.slice ua un uc) := (BoxAt.cell YB.out 2).trans rfl
        clear hb
        clear kPB0 kPB2 kPB3 kYB2
        have kPB0 : v16.cell? ⟨w.heap.size, 0, none⟩ = some (.int .i64 d) := (BoxAt.cell PB.out 0).trans rfl
        have kXB0 : v16.cell? ⟨v9.heap.size, 0, none⟩ = some (.int .i64 d) := (BoxAt.cell XB.out 0).trans rfl
        have kYB2 : v16.cell? ⟨v13.heap.size, 2, none⟩ = some (.slice ua un uc) := (BoxAt.cell YB.out 2).trans rfl
        go_wp2
        go_ret
        exact ⟨rfl, HB.out⟩
    case' b1010_11 =>
      refine step_new rfl 25 rfl _ Try.zeroBf ?_
      intro v6 b h z
      have SB := hid (show BoxAt v6 v5.heap.size 25 #[.int .i64 0, .bool false, .slice none 0 0, .slice none 0 0] from b)
      have PB := hid (PB.out.belowAll h)
      have WB := hid (WB.out.belowAll h)
      have HWV := hid (HWV.out.below h)
      have HB := hid (HB.out.trans (h.mono HB.out.size))
      have hsv6 : v5.heap.size + 1 ≤ v6.heap.size := by first | exact h.size | omega
      clear b h z
      refine hK1010.out _ _ (PB.out) (fun hHeld1010 => ?_)
      clear hK1010 K1010
      try simp only [Act.put, List.setIfInBounds_toArray, List.set_cons_zero, List.set_cons_succ]
      refine wpAnyH_ready (rs := [9]) (by kernel_rfl) (by simp) (AllReadyH.cons (o := { dst := some 40, op := Op.call { callee := Callee.builtin Builtin.append, args := #[Operand.const (Value.slice none 0 0), Operand.tmp 39], argTypes := #[23, 23] }, type := 23, pos := "more.go:57", after := _, guard := none }) rfl (fun K1014 hK1014 => ?_) AllReadyH.nil)
      refine step_app_nilWt rfl (.tmp 39) rfl _ l rfl (HV.out.below HB.out) (by have := HL.out; omega) ?_
      intro uv7 v7 ho h
      obtain ⟨qv7, rfl, -⟩ := ho.sl
      have PB := hid (PB.out.belowAll h)
      have WB := hid (WB.out.belowAll h)
      have SB := hid (SB.out.belowAll h)
      have HWV := hid (HWV.out.below h)
      have HB := hid (HB.out.trans (h.mono HB.out.size))
      have hsv7 : v6.heap.size ≤ v7.heap.size := by first | exact h.size | omega
      have HWL := hid ho
      clear ho h
      refine hK1014.out _ _ (PB.out) (fun hHeld1014 => ?_)
      clear hK1014 K1014
      try simp only [Act.put, List.setIfInBounds_toArray, List.set_cons_zero, List.set_cons_succ]
      refine wpAnyH_take (i := 10) (oi := { dst := some 41, op := Op.build 25 #[(0, Operand.tmp 32), (1, Operand.tmp 34), (2, Operand.tmp 37), (3, Operand.tmp 40)], type := 25, pos := "more.go:57", after := _, guard := none }) (v := ?_) rfl (by kernel_rfl) (by kernel_rfl) (by kernel_rfl) (fun _ _ _ h => h) (Or.inl ⟨by rfl, ?_⟩) (by assumption) ?_
      rotate_left
      · (intro w hSw; (try dsimp only at hSw); go_simp; try with_reducible rfl)
      simp only [Act.put, List.setIfInBounds_toArray, List.set_cons_zero, List.set_cons_succ]
      refine wpAnyH_ready (rs := [12]) (by kernel_rfl) (by simp) (AllReadyH.cons (o := { dst := none, op := Op.store 25 (Operand.tmp 6) (Operand.tmp 41), type := 0, pos := "more.go:57", after := _, guard := none }) rfl (fun K1016 hK1016 => ?_) AllReadyH.nil)
      refine step_store_whole rfl 25 _ _ rfl (v5.heap.size) rfl [.int .i64 d, .bool k, .slice qv5.a qv5.n qv5.c, .slice qv7.a qv7.n qv7.c] rfl _ _ SB.out rfl Try.infoBf (by simp [Value.oneCell']) ?_
      intro v8 b g z
      have hsv8 : v7.heap.size ≤ v8.heap.size := by omega
      have HWV := hid (HWV.out.put g SB.out (by decide))
      have HWL := hid (HWL.out.put g SB.out (by decide))
      have SB := hid (show BoxAt v8 (v5.heap.size) 25 #[.int .i64 d, .bool k, .slice qv5.a qv5.n qv5.c, .slice qv7.a qv7.n qv7.c] from b)
      have PB := hid (PB.out.grown g (fun e => by have := Option.some.inj e; omega))
      have WB := hid (WB.out.grown g (fun e => by have := Option.some.inj e; omega))
      have HB := hid (HB.out.trans (grown_below g (by omega) (by omega)))
      clear b g z
      refine hK1016.out _ _ (PB.out) (fun hHeld1016 => ?_)
      clear hK1016 K1016
      try simp only [Act.put]
      refine wpAnyH_done (by kernel_rfl) ?_ _
      clear hHeld hHeld1009 hHeld1010 hHeld1014 hHeld1016
      have kPB0 : v8.cell? ⟨w.heap.size, 0, none⟩ = some (.int .i64 d) := (BoxAt.cell PB.out 0).trans rfl
      have kPB2 : v8.cell? ⟨w.heap.size, 2, none⟩ = some (.slice xa N xc) := (BoxAt.cell PB.out 2).trans rfl
      have kPB3 : v8.cell? ⟨w.heap.size, 3, none⟩ = some (.slice sa M sc) := (BoxAt.cell PB.out 3).trans rfl
      go_wp2_with (first
        | (refine wpList_load_box rfl 25 _ rfl (w.heap.size) rfl _ _ PB.out _ Try.underlying25 Try.infoBf ?_)
        | (refine wpList_load_box rfl 27 _ rfl (v1.heap.size) rfl _ _ WB.out _ Try.underlying27 Try.infoWt ?_)
        | fail)
      have hwvlt := hid (fun k hk => (HWV.out.lt k hk).2)
      refine (send_any d k p r v true (vs := ⟨xa, N, xc⟩) (s := ⟨sa, M, sc⟩) (HX.out.below HB.out) (HV.out.below HB.out) (by have := HXL.out; omega) (by have := HL.out; omega)).mono ?_
      rintro e v9 ⟨x3, u3, q3, rfl, hc, hu, hq, hb⟩
      have PB := hid (PB.out.belowAll hb)
      have WB := hid (WB.out.belowAll hb)
      have SB := hid (SB.out.belowAll hb)
      have HWV := hid (HWV.out.below hb)
      have HWL := hid (HWL.out.below hb)
      have HB := hid (HB.out.trans (hb.mono HB.out.size))
      have hsv9 : v8.heap.size ≤ v9.heap.size := by first | exact hb.size | omega
      have hln := Nat.le_trans (sendV_len d xs l v) (Nat.succ_le_succ HXL.out)
      have hlm := Nat.le_trans (sendL_len d k xs l ⟨p, r, v⟩ true) (Nat.succ_le_succ HL.out)
      obtain ⟨SC, hSC⟩ : ∃ c, sendC d xs l true = c := ⟨_, rfl⟩
      rw [hSC]
      obtain ⟨V1, hV1⟩ : ∃ c, sendV d xs l v = c := ⟨_, rfl⟩
      rw [hV1] at hc hln
      obtain ⟨L1, hL1⟩ : ∃ c, sendL d k xs l ⟨p, r, v⟩ true = c := ⟨_, rfl⟩
      rw [hL1] at hu hlm
      have HC1 := hid hc
      have HU1 := hid hu
      have HLN := hid hln
      have HLM := hid hlm
      clear hc hu hq hln hlm hSC hV1 hL1
      clear kPB0 kPB2 kPB3
      have kPB0 : v9.cell? ⟨w.heap.size, 0, none⟩ = some (.int .i64 d) := (BoxAt.cell PB.out 0).trans rfl
      have kPB2 : v9.cell? ⟨w.heap.size, 2, none⟩ = some (.slice xa N xc) := (BoxAt.cell PB.out 2).trans rfl
      have kPB3 : v9.cell? ⟨w.heap.size, 3, none⟩ = some (.slice sa M sc) := (BoxAt.cell PB.out 3).trans rfl
      clear hb
      have FL3 := hid trivial
      have FL4 := hid trivial
      go_wp2_with (first
        | (have hfl := FL3.out
           refine wpList_new rfl 25 rfl _ Try.zeroBf ?_
           intro v10 b h z
           have XB := hid (show BoxAt v10 v9.heap.size 25 #[.int .i64 0, .bool false, .slice none 0 0, .slice none 0 0] from b)
           have PB := hid (PB.out.belowAll h)
           have WB := hid (WB.out.belowAll h)
           have SB := hid (SB.out.belowAll h)
           have HWV := hid (HWV.out.below h)
           have HWL := hid (HWL.out.below h)
           have HC1 := hid (HC1.out.below h)
           have HU1 := hid (HU1.out.below h)
           have HB := hid (HB.out.trans (h.mono HB.out.size))
           have hsv10 : v9.heap.size + 1 ≤ v10.heap.size := by first | exact h.size | omega
           clear kPB0 kPB2 kPB3
           have kPB0 : v10.cell? ⟨w.heap.size, 0, none⟩ = some (.int .i64 d) := (BoxAt.cell PB.out 0).trans rfl
           have kPB2 : v10.cell? ⟨w.heap.size, 2, none⟩ = some (.slice xa N xc) := (BoxAt.cell PB.out 2).trans rfl
           have kPB3 : v10.cell? ⟨w.heap.size, 3, none⟩ = some (.slice sa M sc) := (BoxAt.cell PB.out 3).trans rfl
           clear b h z hfl FL3)
        | (have hfl := FL4.out
           refine wpList_store_whole rfl 25 _ _ rfl rfl (v9.heap.size) rfl [.int .i64 d, .bool k, .slice x3.a x3.n x3.c, .slice u3.a u3.n u3.c] rfl _ _ XB.out rfl Try.infoBf (by simp [Value.oneCell']) ?_
           intro v11 b g z
           have hsv11 : v10.heap.size ≤ v11.heap.size := by omega
           have HWV := hid (HWV.out.put g XB.out (by decide))
           have HWL := hid (HWL.out.put g XB.out (by decide))
           have HC1 := hid (HC1.out.put g XB.out (by decide))
           have HU1 := hid (HU1.out.put g XB.out (by decide))
           have XB := hid (show BoxAt v11 (v9.heap.size) 25 #[.int .i64 d, .bool k, .slice x3.a x3.n x3.c, .slice u3.a u3.n u3.c] from b)
           have PB := hid (PB.out.grown g (fun e => by have := Option.some.inj e; omega))
           have WB := hid (WB.out.grown g (fun e => by have := Option.some.inj e; omega))
           have SB := hid (SB.out.grown g (fun e => by have := Option.some.inj e; omega))
           have HB := hid (HB.out.trans (grown_below g (by omega) (by omega)))
           clear kPB0 kPB2 kPB3
           have kPB0 : v11.cell? ⟨w.heap.size, 0, none⟩ = some (.int .i64 d) := (BoxAt.cell PB.out 0).trans rfl
           have kPB2 : v11.cell? ⟨w.heap.size, 2, none⟩ = some (.slice xa N xc) := (BoxAt.cell PB.out 2).trans rfl
           have kPB3 : v11.cell? ⟨w.heap.size, 3, none⟩ = some (.slice sa M sc) := (BoxAt.cell PB.out 3).trans rfl
           clear b g z hfl FL4)
        | (refine wpList_load_box rfl 25 _ rfl (w.heap.size) rfl _ _ PB.out _ Try.underlying25 Try.infoBf ?_)
        | fail)
      refine (send_any d k 0 0 77 true (vs := ⟨xa, N, xc⟩) (s := ⟨sa, M, sc⟩) (HX.out.below HB.out) (HV.out.below HB.out) (by have := HXL.out; omega) (by have := HL.out; omega)).mono ?_
      rintro e v12 ⟨x4, u4, q4, rfl, hc, hu, hq, hb⟩
      have PB := hid (PB.out.belowAll hb)
      have WB := hid (WB.out.belowAll hb)
      have SB := hid (SB.out.belowAll hb)
      have XB := hid (XB.out.belowAll hb)
      have HWV := hid (HWV.out.below hb)
      have HWL := hid (HWL.out.below hb)
      have HC1 := hid (HC1.out.below hb)
      have HU1 := hid (HU1.out.below hb)
      have HB := hid (HB.out.trans (hb.mono HB.out.size))
      have hsv12 : v11.heap.size ≤ v12.heap.size := by first | exact hb.size | omega
      obtain ⟨SD, hSD⟩ : ∃ c, sendC d xs l true = c := ⟨_, rfl⟩
      rw [hSD]
      clear hc hu hq hSD
      clear kPB0 kPB2 kPB3
      have kPB0 : v12.cell? ⟨w.heap.size, 0, none⟩ = some (.int .i64 d) := (BoxAt.cell PB.out 0).trans rfl
      have kPB2 : v12.cell? ⟨w.heap.size, 2, none⟩ = some (.slice xa N xc) := (BoxAt.cell PB.out 2).trans rfl
      have kPB3 : v12.cell? ⟨w.heap.size, 3, none⟩ = some (.slice sa M sc) := (BoxAt.cell PB.out 3).trans rfl
      clear hb
      go_wp2_with (first
        | (refine wpList_load_box rfl 25 _ rfl (v9.heap.size) rfl _ _ XB.out _ Try.underlying25 Try.infoBf ?_)
        | (refine wpList_load_box rfl 27 _ rfl (v1.heap.size) rfl _ _ WB.out _ Try.underlying27 Try.infoWt ?_)
        | fail)
      refine (take_any d k p r v true (vs := x3) (s := u3) (xs := V1) (l := L1) HC1.out.sees HU1.out.sees (by have := HLN.out; omega) (by have := HLM.out; omega)).mono ?_
      rintro e v13 ⟨x5, u5, q5, rfl, hc, hu, hq, hb⟩
      have PB := hid (PB.out.belowAll hb)
      have WB := hid (WB.out.belowAll hb)
      have SB := hid (SB.out.belowAll hb)
      have XB := hid (XB.out.belowAll hb)
      have HWV := hid (HWV.out.below hb)
      have HWL := hid (HWL.out.below hb)
      have HC1 := hid (HC1.out.below hb)
      have HU1 := hid (HU1.out.below hb)
      have HB := hid (HB.out.trans (hb.mono HB.out.size))
      have hsv13 : v12.heap.size ≤ v13.heap.size := by first | exact hb.size | omega
      obtain ⟨TC, hTC⟩ : ∃ c, takeC V1 true = c := ⟨_, rfl⟩
      rw [hTC]
      obtain ⟨TX, hTX⟩ : ∃ c, takeX V1 = c := ⟨_, rfl⟩
      rw [hTX]
      obtain ⟨L2, hL2⟩ : ∃ c, takeV V1 L1 = c := ⟨_, rfl⟩
      rw [hL2] at hc
      have HC2 := hid hc
      have HCN := hid hc.n
      have HCL := hid hc.lt
      obtain ⟨ua, un, uc⟩ := x5
      clear hc hu hq hTC hTX hL2 HC1 HU1 HLN HLM
      clear kPB0 kPB2 kPB3
      have kPB0 : v13.cell? ⟨w.heap.size, 0, none⟩ = some (.int .i64 d) := (BoxAt.cell PB.out 0).trans rfl
      have kPB2 : v13.cell? ⟨w.heap.size, 2, none⟩ = some (.slice xa N xc) := (BoxAt.cell PB.out 2).trans rfl
      have kPB3 : v13.cell? ⟨w.heap.size, 3, none⟩ = some (.slice sa M sc) := (BoxAt.cell PB.out 3).trans rfl
      clear hb
      have FL5 := hid trivial
      have FL6 := hid trivial
      go_wp2_with (first
        | (have hfl := FL5.out
           refine wpList_new rfl 25 rfl _ Try.zeroBf ?_
           intro v14 b h z
           have YB := hid (show BoxAt v14 v13.heap.size 25 #[.int .i64 0, .bool false, .slice none 0 0, .slice none 0 0] from b)
           have PB := hid (PB.out.belowAll h)
           have WB := hid (WB.out.belowAll h)
           have SB := hid (SB.out.belowAll h)
           have XB := hid (XB.out.belowAll h)
           have HWV := hid (HWV.out.below h)
           have HWL := hid (HWL.out.below h)
           have HC2 := hid (HC2.out.below h)
           have HB := hid (HB.out.trans (h.mono HB.out.size))
           have hsv14 : v13.heap.size + 1 ≤ v14.heap.size := by first | exact h.size | omega
           clear kPB0 kPB2 kPB3
           have kPB0 : v14.cell? ⟨w.heap.size, 0, none⟩ = some (.int .i64 d) := (BoxAt.cell PB.out 0).trans rfl
           have kPB2 : v14.cell? ⟨w.heap.size, 2, none⟩ = some (.slice xa N xc) := (BoxAt.cell PB.out 2).trans rfl
           have kPB3 : v14.cell? ⟨w.heap.size, 3, none⟩ = some (.slice sa M sc) := (BoxAt.cell PB.out 3).trans rfl
           clear b h z hfl FL5)
        | (have hfl := FL6.out
           refine wpList_store_whole rfl 25 _ _ rfl rfl (v13.heap.size) rfl [.int .i64 d, .bool k, .slice ua un uc, .slice u5.a u5.n u5.c] rfl _ _ YB.out rfl Try.infoBf (by simp [Value.oneCell']) ?_
           intro v15 b g z
           have hsv15 : v14.heap.size ≤ v15.heap.size := by omega
           have HWV := hid (HWV.out.put g YB.out (by decide))
           have HWL := hid (HWL.out.put g YB.out (by decide))
           have HC2 := hid (HC2.out.put g YB.out (by decide))
           have YB := hid (show BoxAt v15 (v13.heap.size) 25 #[.int .i64 d, .bool k, .slice ua un uc, .slice u5.a u5.n u5.c] from b)
           have PB := hid (PB.out.grown g (fun e => by have := Option.some.inj e; omega))
           have WB := hid (WB.out.grown g (fun e => by have := Option.some.inj e; omega))
           have SB := hid (SB.out.grown g (fun e => by have := Option.some.inj e; omega))
           have XB := hid (XB.out.grown g (fun e => by have := Option.some.inj e; omega))
           have HB := hid (HB.out.trans (grown_below g (by omega) (by omega)))
           clear kPB0 kPB2 kPB3
           have kPB0 : v15.cell? ⟨w.heap.size, 0, none⟩ = some (.int .i64 d) := (BoxAt.cell PB.out 0).trans rfl
           have kPB2 : v15.cell? ⟨w.heap.size, 2, none⟩ = some (.slice xa N xc) := (BoxAt.cell PB.out 2).trans rfl
           have kPB3 : v15.cell? ⟨w.heap.size, 3, none⟩ = some (.slice sa M sc) := (BoxAt.cell PB.out 3).trans rfl
           clear b g z hfl FL6
           refine Hid.out ?_)
        | fail)
      refine hid ?_
      clear kPB0 kPB2 kPB3
      have kPB0 : v15.cell? ⟨w.heap.size, 0, none⟩ = some (.int .i64 d) := (BoxAt.cell PB.out 0).trans rfl
      have kPB2 : v15.cell? ⟨w.heap.size, 2, none⟩ = some (.slice xa N xc) := (BoxAt.cell PB.out 2).trans rfl
      have kPB3 : v15.cell? ⟨w.heap.size, 3, none⟩ = some (.slice sa M sc) := (BoxAt.cell PB.out 3).trans rfl
      have kYB2 : v15.cell? ⟨v13.heap.size, 2, none⟩ = some (.slice ua un uc) := (BoxAt.cell YB.out 2).trans rfl
      by_cases h0 : 0 < un
      · have hL0 : 0 < L2.length := by have : un = L2.length := HCN.out; omega
        obtain ⟨G, cap, hgv, -⟩ := owns_formQ HC2.out hL0
        simp only [Sl.val, Value.slice.injEq] at hgv
        obtain ⟨rfl, -, -⟩ := hgv
        obtain ⟨hG1, hG2⟩ := HCL.out G rfl
        obtain ⟨E, hE⟩ : ∃ E, L2.getD 0 0 = E := ⟨_, rfl⟩
        have HE := hid hE
        have hG3 : v13.heap.size ≤ v15.heap.size := by omega
        have hu0 : (0 : Int) < (un : Int) := by omega
        have hu1 : (1 : Int) ≤ (un : Int) := by omega
        clear hE
        go_wp2_with fail
        clear kPB0 kPB2 kPB3 kYB2
        have PB := hid (BoxAt.drew PB.out)
        have WB := hid (BoxAt.drew WB.out)
        have SB := hid (BoxAt.drew SB.out)
        have XB := hid (BoxAt.drew XB.out)
        have YB := hid (BoxAt.drew YB.out)
        have HWV := hid (HWV.out.below ((Below.refl v15.heap.size v15).drew))
        have HWL := hid (HWL.out.below ((Below.refl v15.heap.size v15).drew))
        have HC2 := hid (HC2.out.below ((Below.refl v15.heap.size v15).drew))
        have HB := hid HB.out.drew
        have hsv16 : v15.heap.size ≤ v15.drew.heap.size := Nat.le_refl _
        refine wp_region_held_drew (S := (fun w' : World => BoxAt w' (v13.heap.size) 25 #[.int .i64 d, .bool k, .slice (some ⟨G, 0, none⟩) un uc, .slice u5.a u5.n u5.c])) (by kernel_rfl) (YB.out) (fun hHeld => ?_)
        generalize v15.drew = v16 at *
        refine wpAnyH_take (i := 0) (oi := { dst := some 64, op := Op.fieldAddr 25 (Operand.tmp 10) 2, type := 0, pos := "more.go:62", after := _, guard := none }) (v := ?_) rfl (by kernel_rfl) (by kernel_rfl) (by kernel_rfl) (fun _ _ _ h => h) (Or.inl ⟨by rfl, ?_⟩) (by assumption) ?_
        rotate_left
        · (intro w hSw; (try dsimp only at hSw); go_simp; try with_reducible rfl)
        simp only [Act.put, List.setIfInBounds_toArray, List.set_cons_zero, List.set_cons_succ]
        refine wpAnyH_take (i := 1) (oi := { dst := some 65, op := Op.load 22 (Operand.tmp 64), type := 22, pos := "more.go:62", after := _, guard := none }) (v := ?_) rfl (by kernel_rfl) (by kernel_rfl) (by kernel_rfl) (fun _ _ _ h => h) (Or.inl ⟨by rfl, ?_⟩) (by assumption) ?_
        rotate_left
        · (intro W hSw; (try dsimp only at hSw); have hs0S := hSw; have c0_0 : W.cell? ⟨v13.heap.size, 0, none⟩ = some (.int .i64 d) := (BoxAt.cell hs0S 0).trans rfl; have c0_1 : W.cell? ⟨v13.heap.size, 1, none⟩ = some (.bool k) := (BoxAt.cell hs0S 1).trans rfl; have c0_2 : W.cell? ⟨v13.heap.size, 2, none⟩ = some (.slice (some ⟨G, 0, none⟩) un uc) := (BoxAt.cell hs0S 2).trans rfl; have c0_3 : W.cell? ⟨v13.heap.size, 3, none⟩ = some (.slice u5.a u5.n u5.c) := (BoxAt.cell hs0S 3).trans rfl; clear hs0S; go_simp; try with_reducible rfl)
        simp only [Act.put, List.setIfInBounds_toArray, List.set_cons_zero, List.set_cons_succ]
        refine wpAnyH_take (i := 2) (oi := { dst := some 66, op := Op.fieldAddr 25 (Operand.tmp 10) 2, type := 0, pos := "more.go:62", after := _, guard := none }) (v := ?_) rfl (by kernel_rfl) (by kernel_rfl) (by kernel_rfl) (fun _ _ _ h => h) (Or.inl ⟨by rfl, ?_⟩) (by assumption) ?_
        rotate_left
        · (intro w hSw; (try dsimp only at hSw); go_simp; try with_reducible rfl)
        simp only [Act.put, List.setIfInBounds_toArray, List.set_cons_zero, List.set_cons_succ]
        refine wpAnyH_take (i := 3) (oi := { dst := some 67, op := Op.load 22 (Operand.tmp 66), type := 22, pos := "more.go:62", after := _, guard := none }) (v := ?_) rfl (by kernel_rfl) (by kernel_rfl) (by kernel_rfl) (fun _ _ _ h => h) (Or.inl ⟨by rfl, ?_⟩) (by assumption) ?_
        rotate_left
        · (intro W hSw; (try dsimp only at hSw); have hs0S := hSw; have c0_0 : W.cell? ⟨v13.heap.size, 0, none⟩ = some (.int .i64 d) := (BoxAt.cell hs0S 0).trans rfl; have c0_1 : W.cell? ⟨v13.heap.size, 1, none⟩ = some (.bool k) := (BoxAt.cell hs0S 1).trans rfl; have c0_2 : W.cell? ⟨v13.heap.size, 2, none⟩ = some (.slice (some ⟨G, 0, none⟩) un uc) := (BoxAt.cell hs0S 2).trans rfl; have c0_3 : W.cell? ⟨v13.heap.size, 3, none⟩ = some (.slice u5.a u5.n u5.c) := (BoxAt.cell hs0S 3).trans rfl; clear hs0S; go_simp; try with_reducible rfl)
        simp only [Act.put, List.setIfInBounds_toArray, List.set_cons_zero, List.set_cons_succ]
        refine wpAnyH_take (i := 4) (oi := { dst := some 68, op := Op.indexAddr 22 (Operand.tmp 67) (Operand.const (Value.int IntKind.i64 0)), type := 0, pos := "more.go:62", after := _, guard := none }) (v := ?_) rfl (by kernel_rfl) (by kernel_rfl) (by kernel_rfl) (fun _ _ _ h => h) (Or.inl ⟨by rfl, ?_⟩) (by assumption) ?_
        rotate_left
        · (intro w hSw; (try dsimp only at hSw); go_simp; try with_reducible rfl)
        simp only [Act.put, List.setIfInBounds_toArray, List.set_cons_zero, List.set_cons_succ]
        refine wpAnyH_ready (rs := [5]) (by kernel_rfl) (by simp) (AllReadyH.cons (o := { dst := some 69, op := Op.load 3 (Operand.tmp 68), type := 3, pos := "more.go:62", after := _, guard := none }) rfl (fun K2006 hK2006 => ?_) AllReadyH.nil)
        have cG : v16.cell? ⟨G, 0, none⟩ = some (.int .i64 E) := (by rw [← HE.out]; exact OI.at HC2.out 0 hL0)
        go_simp
        clear cG
        refine hK2006.out _ _ (YB.out) (fun hHeld2006 => ?_)
        clear hK2006 K2006
        try simp only [Act.put, List.setIfInBounds_toArray, List.set_cons_zero, List.set_cons_succ]
        refine wpAnyH_take (i := 6) (oi := { dst := some 70, op := Op.binOp BinOp.add 3 (Operand.tmp 69) (Operand.const (Value.int IntKind.i64 1)) 3, type := 3, pos := "more.go:62", after := _, guard := none }) (v := ?_) rfl (by kernel_rfl) (by kernel_rfl) (by kernel_rfl) (fun _ _ _ h => h) (Or.inl ⟨by rfl, ?_⟩) (by assumption) ?_
        rotate_left
        · (intro W hSw; (try dsimp only at hSw); have hs0S := hSw; clear hs0S; go_simp; try with_reducible rfl)
        simp only [Act.put, List.setIfInBounds_toArray, List.set_cons_zero, List.set_cons_succ]
        refine wpAnyH_take (i := 7) (oi := { dst := some 71, op := Op.indexAddr 22 (Operand.tmp 65) (Operand.const (Value.int IntKind.i64 0)), type := 0, pos := "more.go:62", after := _, guard := none }) (v := ?_) rfl (by kernel_rfl) (by kernel_rfl) (by kernel_rfl) (fun _ _ _ h => h) (Or.inl ⟨by rfl, ?_⟩) (by assumption) ?_
        rotate_left
        · (intro w hSw; (try dsimp only at hSw); go_simp; try with_reducible rfl)
        simp only [Act.put, List.setIfInBounds_toArray, List.set_cons_zero, List.set_cons_succ]
        refine wpAnyH_ready (rs := [8]) (by kernel_rfl) (by simp) (AllReadyH.cons (o := { dst := none, op := Op.store 3 (Operand.tmp 71) (Operand.tmp 70), type := 0, pos := "more.go:62", after := _, guard := none }) rfl (fun K2009 hK2009 => ?_) AllReadyH.nil)
        refine step_set_I rfl 3 _ _ rfl _ G _ _ L2 HC2.out 0 hL0 rfl _ rfl rfl rfl (by kernel_rfl) ?_
        intro v17 g z
        have hsv17 : v16.heap.size ≤ v17.heap.size := by omega
        have PB := hid (PB.out.grown g (fun e => by have := Option.some.inj e; omega))
        have WB := hid (WB.out.grown g (fun e => by have := Option.some.inj e; omega))
        have SB := hid (SB.out.grown g (fun e => by have := Option.some.inj e; omega))
        have XB := hid (XB.out.grown g (fun e => by have := Option.some.inj e; omega))
        have YB := hid (YB.out.grown g (fun e => by have := Option.some.inj e; omega))
        have HWV := hid (HWV.out.far g (fun k hk => by have := hwvlt.out k hk; omega))
        have HWL := hid (HWL.out.over HC2.out g)
        have HB := hid (HB.out.trans (grown_below g (by omega) (by omega)))
        clear g z
        refine hK2009.out _ _ (YB.out) (fun hHeld2009 => ?_)
        clear hK2009 K2009
        try simp only [Act.put]
        refine wpAnyH_done (by kernel_rfl) ?_ _
        clear hHeld hHeld2006 hHeld2009
        have kPB0 : v17.cell? ⟨w.heap.size, 0, none⟩ = some (.int .i64 d) := (BoxAt.cell PB.out 0).trans rfl
        have kPB2 : v17.cell? ⟨w.heap.size, 2, none⟩ = some (.slice xa N xc) := (BoxAt.cell PB.out 2).trans rfl
        have kPB3 : v17.cell? ⟨w.heap.size, 3, none⟩ = some (.slice sa M sc) := (BoxAt.cell PB.out 3).trans rfl
        have kYB2 : v17.cell? ⟨v13.heap.size, 2, none⟩ = some (.slice (some ⟨G, 0, none⟩) un uc) := (BoxAt.cell YB.out 2).trans rfl
        clear HC2
        go_wp2_with (first
          | (refine wpList_load_box rfl 25 _ rfl (w.heap.size) rfl _ _ PB.out _ Try.underlying25 Try.infoBf ?_)
          | (refine wpList_load_box rfl 25 _ rfl (v5.heap.size) rfl _ _ SB.out _ Try.underlying25 Try.infoBf ?_)
          | fail)
        refine (rbsame_any d k (vs := ⟨xa, N, xc⟩) (ws := qv5) (s := ⟨sa, M, sc⟩) (r := qv7) (HX.out.below HB.out) HWV.out.sees (HV.out.below HB.out) HWL.out.sees).mono ?_
        rintro e v18 ⟨rfl, hb⟩
        have PB := hid (PB.out.belowAll hb)
        have WB := hid (WB.out.belowAll hb)
        have SB := hid (SB.out.belowAll hb)
        have XB := hid (XB.out.belowAll hb)
        have YB := hid (YB.out.belowAll hb)
        have HWV := hid (HWV.out.below hb)
        have HWL := hid (HWL.out.below hb)
        have HB := hid (HB.out.trans (hb.mono HB.out.size))
        have hsv18 : v17.heap.size ≤ v18.heap.size := by first | exact hb.size | omega
        clear kPB0 kPB2 kPB3 kYB2
        have kPB0 : v18.cell? ⟨w.heap.size, 0, none⟩ = some (.int .i64 d) := (BoxAt.cell PB.out 0).trans rfl
        have kPB2 : v18.cell? ⟨w.heap.size, 2, none⟩ = some (.slice xa N xc) := (BoxAt.cell PB.out 2).trans rfl
        have kPB3 : v18.cell? ⟨w.heap.size, 3, none⟩ = some (.slice sa M sc) := (BoxAt.cell PB.out 3).trans rfl
        have kYB2 : v18.cell? ⟨v13.heap.size, 2, none⟩ = some (.slice (some ⟨G, 0, none⟩) un uc) := (BoxAt.cell YB.out 2).trans rfl
        clear hb
        clear kPB0 kPB2 kPB3 kYB2
        have kPB0 : v18.cell? ⟨w.heap.size, 0, none⟩ = some (.int .i64 d) := (BoxAt.cell PB.out 0).trans rfl
        have kXB0 : v18.cell? ⟨v9.heap.size, 0, none⟩ = some (.int .i64 d) := (BoxAt.cell XB.out 0).trans rfl
        have kYB2 : v18.cell? ⟨v13.heap.size, 2, none⟩ = some (.slice (some ⟨G, 0, none⟩) un uc) := (BoxAt.cell YB.out 2).trans rfl
        go_wp2
        go_ret
        exact ⟨rfl, HB.out⟩
      · have hu0 : ¬ (0 : Int) < (un : Int) := by omega
        go_wp2_with (first
          | (refine wpList_load_box rfl 25 _ rfl (w.heap.size) rfl _ _ PB.out _ Try.underlying25 Try.infoBf ?_)
          | (refine wpList_load_box rfl 25 _ rfl (v5.heap.size) rfl _ _ SB.out _ Try.underlying25 Try.infoBf ?_)
          | fail)
        refine (rbsame_any d k (vs := ⟨xa, N, xc⟩) (ws := qv5) (s := ⟨sa, M, sc⟩) (r := qv7) (HX.out.below HB.out) HWV.out.sees (HV.out.below HB.out) HWL.out.sees).mono ?_
        rintro e v16 ⟨rfl, hb⟩
        have PB := hid (PB.out.belowAll hb)
        have WB := hid (WB.out.belowAll hb)
        have SB := hid (SB.out.belowAll hb)
        have XB := hid (XB.out.belowAll hb)
        have YB := hid (YB.out.belowAll hb)
        have HWV := hid (HWV.out.below hb)
        have HWL := hid (HWL.out.below hb)
        have HC2 := hid (HC2.out.below hb)
        have HB := hid (HB.out.trans (hb.mono HB.out.size))
        have hsv16 : v15.heap.size ≤ v16.heap.size := by first | exact hb.size | omega
        clear kPB0 kPB2 kPB3 kYB2
        have kPB0 : v16.cell? ⟨w.heap.size, 0, none⟩ = some (.int .i64 d) := (BoxAt.cell PB.out 0).trans rfl
        have kPB2 : v16.cell? ⟨w.heap.size, 2, none⟩ = some (.slice xa N xc) := (BoxAt.cell PB.out 2).trans rfl
        have kPB3 : v16.cell? ⟨w.heap.size, 3, none⟩ = some (.slice sa M sc) := (BoxAt.cell PB.out 3).trans rfl
        have kYB2 : v16.cell? ⟨v13.heap.size, 2, none⟩ = some (.slice ua un uc) := (BoxAt.cell YB.out 2).trans rfl
        clear hb
        clear kPB0 kPB2 kPB3 kYB2
        have kPB0 : v16.cell? ⟨w.heap.size, 0, none⟩ = some (.int .i64 d) := (BoxAt.cell PB.out 0).trans rfl
        have kXB0 : v16.cell? ⟨v9.heap.size, 0, none⟩ = some (.int .i64 d) := (BoxAt.cell XB.out 0).trans rfl
        have kYB2 : v16.cell? ⟨v13.heap.size, 2, none⟩ = some (.slice ua un uc) := (BoxAt.cell YB.out 2).trans rfl
        go_wp2
        go_ret
        exact ⟨rfl, HB.out⟩
  case' b1009_11 =>
    refine step_new rfl 25 rfl _ Try.zeroBf ?_
    intro v5 b h z
    have SB := hid (show BoxAt v5 v4.heap.size 25 #[.int .i64 0, .bool false, .slice none 0 0, .slice none 0 0] from b)
    have PB := hid (PB.out.belowAll h)
    have WB := hid (WB.out.belowAll h)
    have HB := hid (HB.out.trans (h.mono HB.out.size))
    have hsv5 : v4.heap.size + 1 ≤ v5.heap.size := by first | exact h.size | omega
    clear b h z
    refine hK1009.out _ _ (PB.out) (fun hHeld1009 => ?_)
    clear hK1009 K1009
    try simp only [Act.put, List.setIfInBounds_toArray, List.set_cons_zero, List.set_cons_succ]
    refine wpAnyH_ready (rs := [6]) (by kernel_rfl) (by simp) (AllReadyH.cons (o := { dst := some 37, op := Op.call { callee := Callee.builtin Builtin.append, args := #[Operand.const (Value.slice none 0 0), Operand.tmp 36], argTypes := #[22, 22] }, type := 22, pos := "more.go:57", after := _, guard := none }) rfl (fun K1017 hK1017 => ?_) AllReadyH.nil)
    refine step_app_nilI rfl (.tmp 36) rfl _ (xs) rfl (HX.out.below HB.out) (by have := HXL.out; omega) ?_
    intro uv6 v6 ho h
    obtain ⟨qv6, rfl, -⟩ := ho.sl
    have PB := hid (PB.out.belowAll h)
    have WB := hid (WB.out.belowAll h)
    have SB := hid (SB.out.belowAll h)
    have HB := hid (HB.out.trans (h.mono HB.out.size))
    have hsv6 : v5.heap.size ≤ v6.heap.size := by first | exact h.size | omega
    have HWV := hid ho
    clear ho h
    refine hK1017.out _ _ (PB.out) (fun hHeld1017 => ?_)
    clear hK1017 K1017
    try simp only [Act.put, List.setIfInBounds_toArray, List.set_cons_zero, List.set_cons_succ]
    refine wpAnyH_ready (rs := [9]) (by kernel_rfl) (by simp) (AllReadyH.cons (o := { dst := some 40, op := Op.call { callee := Callee.builtin Builtin.append, args := #[Operand.const (Value.slice none 0 0), Operand.tmp 39], argTypes := #[23, 23] }, type := 23, pos := "more.go:57", after := _, guard := none }) rfl (fun K1018 hK1018 => ?_) AllReadyH.nil)
    refine step_app_nilWt rfl (.tmp 39) rfl _ l rfl (HV.out.below HB.out) (by have := HL.out; omega) ?_
    intro uv7 v7 ho h
    obtain ⟨qv7, rfl, -⟩ := ho.sl
    have PB := hid (PB.out.belowAll h)
    have WB := hid (WB.out.belowAll h)
    have SB := hid (SB.out.belowAll h)
    have HWV := hid (HWV.out.below h)
    have HB := hid (HB.out.trans (h.mono HB.out.size))
    have hsv7 : v6.heap.size ≤ v7.heap.size := by first | exact h.size | omega
    have HWL := hid ho
    clear ho h
    refine hK1018.out _ _ (PB.out) (fun hHeld1018 => ?_)
    clear hK1018 K1018
    try simp only [Act.put, List.setIfInBounds_toArray, List.set_cons_zero, List.set_cons_succ]
    refine wpAnyH_take (i := 10) (oi := { dst := some 41, op := Op.build 25 #[(0, Operand.tmp 32), (1, Operand.tmp 34), (2, Operand.tmp 37), (3, Operand.tmp 40)], type := 25, pos := "more.go:57", after := _, guard := none }) (v := ?_) rfl (by kernel_rfl) (by kernel_rfl) (by kernel_rfl) (fun _ _ _ h => h) (Or.inl ⟨by rfl, ?_⟩) (by assumption) ?_
    rotate_left
    · (intro w hSw; (try dsimp only at hSw); go_simp; try with_reducible rfl)
    simp only [Act.put, List.setIfInBounds_toArray, List.set_cons_zero, List.set_cons_succ]
    refine wpAnyH_ready (rs := [12]) (by kernel_rfl) (by simp) (AllReadyH.cons (o := { dst := none, op := Op.store 25 (Operand.tmp 6) (Operand.tmp 41), type := 0, pos := "more.go:57", after := _, guard := none }) rfl (fun K1020 hK1020 => ?_) AllReadyH.nil)
    refine step_store_whole rfl 25 _ _ rfl (v4.heap.size) rfl [.int .i64 d, .bool k, .slice qv6.a qv6.n qv6.c, .slice qv7.a qv7.n qv7.c] rfl _ _ SB.out rfl Try.infoBf (by simp [Value.oneCell']) ?_
    intro v8 b g z
    have hsv8 : v7.heap.size ≤ v8.heap.size := by omega
    have HWV := hid (HWV.out.put g SB.out (by decide))
    have HWL := hid (HWL.out.put g SB.out (by decide))
    have SB := hid (show BoxAt v8 (v4.heap.size) 25 #[.int .i64 d, .bool k, .slice qv6.a qv6.n qv6.c, .slice qv7.a qv7.n qv7.c] from b)
    have PB := hid (PB.out.grown g (fun e => by have := Option.some.inj e; omega))
    have WB := hid (WB.out.grown g (fun e => by have := Option.some.inj e; omega))
    have HB := hid (HB.out.trans (grown_below g (by omega) (by omega)))
    clear b g z
    refine hK1020.out _ _ (PB.out) (fun hHeld1020 => ?_)
    clear hK1020 K1020
    try simp only [Act.put]
    refine wpAnyH_done (by kernel_rfl) ?_ _
    clear hHeld hHeld1009 hHeld1017 hHeld1018 hHeld1020
    have kPB0 : v8.cell? ⟨w.heap.size, 0, none⟩ = some (.int .i64 d) := (BoxAt.cell PB.out 0).trans rfl
    have kPB2 : v8.cell? ⟨w.heap.size, 2, none⟩ = some (.slice xa N xc) := (BoxAt.cell PB.out 2).trans rfl
    have kPB3 : v8.cell? ⟨w.heap.size, 3, none⟩ = some (.slice sa M sc) := (BoxAt.cell PB.out 3).trans rfl
    go_wp2_with (first
      | (refine wpList_load_box rfl 25 _ rfl (w.heap.size) rfl _ _ PB.out _ Try.underlying25 Try.infoBf ?_)
      | (refine wpList_load_box rfl 27 _ rfl (v1.heap.size) rfl _ _ WB.out _ Try.underlying27 Try.infoWt ?_)
      | fail)
    have hwvlt := hid (fun k hk => (HWV.out.lt k hk).2)
    refine (send_any d k p r v true (vs := ⟨xa, N, xc⟩) (s := ⟨sa, M, sc⟩) (HX.out.below HB.out) (HV.out.below HB.out) (by have := HXL.out; omega) (by have := HL.out; omega)).mono ?_
    rintro e v9 ⟨x3, u3, q3, rfl, hc, hu, hq, hb⟩
    have PB := hid (PB.out.belowAll hb)
    have WB := hid (WB.out.belowAll hb)
    have SB := hid (SB.out.belowAll hb)
    have HWV := hid (HWV.out.below hb)
    have HWL := hid (HWL.out.below hb)
    have HB := hid (HB.out.trans (hb.mono HB.out.size))
    have hsv9 : v8.heap.size ≤ v9.heap.size := by first | exact hb.size | omega
    have hln := Nat.le_trans (sendV_len d xs l v) (Nat.succ_le_succ HXL.out)
    have hlm := Nat.le_trans (sendL_len d k xs l ⟨p, r, v⟩ true) (Nat.succ_le_succ HL.out)
    obtain ⟨SC, hSC⟩ : ∃ c, sendC d xs l true = c := ⟨_, rfl⟩
    rw [hSC]
    obtain ⟨V1, hV1⟩ : ∃ c, sendV d xs l v = c := ⟨_, rfl⟩
    rw [hV1] at hc hln
    obtain ⟨L1, hL1⟩ : ∃ c, sendL d k xs l ⟨p, r, v⟩ true = c := ⟨_, rfl⟩
    rw [hL1] at hu hlm
    have HC1 := hid hc
    have HU1 := hid hu
    have HLN := hid hln
    have HLM := hid hlm
    clear hc hu hq hln hlm hSC hV1 hL1
    clear kPB0 kPB2 kPB3
    have kPB0 : v9.cell? ⟨w.heap.size, 0, none⟩ = some (.int .i64 d) := (BoxAt.cell PB.out 0).trans rfl
    have kPB2 : v9.cell? ⟨w.heap.size, 2, none⟩ = some (.slice xa N xc) := (BoxAt.cell PB.out 2).trans rfl
    have kPB3 : v9.cell? ⟨w.heap.size, 3, none⟩ = some (.slice sa M sc) := (BoxAt.cell PB.out 3).trans rfl
    clear hb
    have FL3 := hid trivial
    have FL4 := hid trivial
    go_wp2_with (first
      | (have hfl := FL3.out
         refine wpList_new rfl 25 rfl _ Try.zeroBf ?_
         intro v10 b h z
         have XB := hid (show BoxAt v10 v9.heap.size 25 #[.int .i64 0, .bool false, .slice none 0 0, .slice none 0 0] from b)
         have PB := hid (PB.out.belowAll h)
         have WB := hid (WB.out.belowAll h)
         have SB := hid (SB.out.belowAll h)
         have HWV := hid (HWV.out.below h)
         have HWL := hid (HWL.out.below h)
         have HC1 := hid (HC1.out.below h)
         have HU1 := hid (HU1.out.below h)
         have HB := hid (HB.out.trans (h.mono HB.out.size))
         have hsv10 : v9.heap.size + 1 ≤ v10.heap.size := by first | exact h.size | omega
         clear kPB0 kPB2 kPB3
         have kPB0 : v10.cell? ⟨w.heap.size, 0, none⟩ = some (.int .i64 d) := (BoxAt.cell PB.out 0).trans rfl
         have kPB2 : v10.cell? ⟨w.heap.size, 2, none⟩ = some (.slice xa N xc) := (BoxAt.cell PB.out 2).trans rfl
         have kPB3 : v10.cell? ⟨w.heap.size, 3, none⟩ = some (.slice sa M sc) := (BoxAt.cell PB.out 3).trans rfl
         clear b h z hfl FL3)
      | (have hfl := FL4.out
         refine wpList_store_whole rfl 25 _ _ rfl rfl (v9.heap.size) rfl [.int .i64 d, .bool k, .slice x3.a x3.n x3.c, .slice u3.a u3.n u3.c] rfl _ _ XB.out rfl Try.infoBf (by simp [Value.oneCell']) ?_
         intro v11 b g z
         have hsv11 : v10.heap.size ≤ v11.heap.size := by omega
         have HWV := hid (HWV.out.put g XB.out (by decide))
         have HWL := hid (HWL.out.put g XB.out (by decide))
         have HC1 := hid (HC1.out.put g XB.out (by decide))
         have HU1 := hid (HU1.out.put g XB.out (by decide))
         have XB := hid (show BoxAt v11 (v9.heap.size) 25 #[.int .i64 d, .bool k, .slice x3.a x3.n x3.c, .slice u3.a u3.n u3.c] from b)
         have PB := hid (PB.out.grown g (fun e => by have := Option.some.inj e; omega))
         have WB := hid (WB.out.grown g (fun e => by have := Option.some.inj e; omega))
         have SB := hid (SB.out.grown g (fun e => by have := Option.some.inj e; omega))
         have HB := hid (HB.out.trans (grown_below g (by omega) (by omega)))
         clear kPB0 kPB2 kPB3
         have kPB0 : v11.cell? ⟨w.heap.size, 0, none⟩ = some (.int .i64 d) := (BoxAt.cell PB.out 0).trans rfl
         have kPB2 : v11.cell? ⟨w.heap.size, 2, none⟩ = some (.slice xa N xc) := (BoxAt.cell PB.out 2).trans rfl
         have kPB3 : v11.cell? ⟨w.heap.size, 3, none⟩ = some (.slice sa M sc) := (BoxAt.cell PB.out 3).trans rfl
         clear b g z hfl FL4)
      | (refine wpList_load_box rfl 25 _ rfl (w.heap.size) rfl _ _ PB.out _ Try.underlying25 Try.infoBf ?_)
      | fail)
    refine (send_any d k 0 0 77 true (vs := ⟨xa, N, xc⟩) (s := ⟨sa, M, sc⟩) (HX.out.below HB.out) (HV.out.below HB.out) (by have := HXL.out; omega) (by have := HL.out; omega)).mono ?_
    rintro e v12 ⟨x4, u4, q4, rfl, hc, hu, hq, hb⟩
    have PB := hid (PB.out.belowAll hb)
    have WB := hid (WB.out.belowAll hb)
    have SB := hid (SB.out.belowAll hb)
    have XB := hid (XB.out.belowAll hb)
    have HWV := hid (HWV.out.below hb)
    have HWL := hid (HWL.out.below hb)
    have HC1 := hid (HC1.out.below hb)
    have HU1 := hid (HU1.out.below hb)
    have HB := hid (HB.out.trans (hb.mono HB.out.size))
    have hsv12 : v11.heap.size ≤ v12.heap.size := by first | exact hb.size | omega
    obtain ⟨SD, hSD⟩ : ∃ c, sendC d xs l true = c := ⟨_, rfl⟩
    rw [hSD]
    clear hc hu hq hSD
    clear kPB0 kPB2 kPB3
    have kPB0 : v12.cell? ⟨w.heap.size, 0, none⟩ = some (.int .i64 d) := (BoxAt.cell PB.out 0).trans rfl
    have kPB2 : v12.cell? ⟨w.heap.size, 2, none⟩ = some (.slice xa N xc) := (BoxAt.cell PB.out 2).trans rfl
    have kPB3 : v12.cell? ⟨w.heap.size, 3, none⟩ = some (.slice sa M sc) := (BoxAt.cell PB.out 3).trans rfl
    clear hb
    go_wp2_with (first
      | (refine wpList_load_box rfl 25 _ rfl (v9.heap.size) rfl _ _ XB.out _ Try.underlying25 Try.infoBf ?_)
      | (refine wpList_load_box rfl 27 _ rfl (v1.heap.size) rfl _ _ WB.out _ Try.underlying27 Try.infoWt ?_)
      | fail)
    refine (take_any d k p r v true (vs := x3) (s := u3) (xs := V1) (l := L1) HC1.out.sees HU1.out.sees (by have := HLN.out; omega) (by have := HLM.out; omega)).mono ?_
    rintro e v13 ⟨x5, u5, q5, rfl, hc, hu, hq, hb⟩
    have PB := hid (PB.out.belowAll hb)
    have WB := hid (WB.out.belowAll hb)
    have SB := hid (SB.out.belowAll hb)
    have XB := hid (XB.out.belowAll hb)
    have HWV := hid (HWV.out.below hb)
    have HWL := hid (HWL.out.below hb)
    have HC1 := hid (HC1.out.below hb)
    have HU1 := hid (HU1.out.below hb)
    have HB := hid (HB.out.trans (hb.mono HB.out.size))
    have hsv13 : v12.heap.size ≤ v13.heap.size := by first | exact hb.size | omega
    obtain ⟨TC, hTC⟩ : ∃ c, takeC V1 true = c := ⟨_, rfl⟩
    rw [hTC]
    obtain ⟨TX, hTX⟩ : ∃ c, takeX V1 = c := ⟨_, rfl⟩
    rw [hTX]
    obtain ⟨L2, hL2⟩ : ∃ c, takeV V1 L1 = c := ⟨_, rfl⟩
    rw [hL2] at hc
    have HC2 := hid hc
    have HCN := hid hc.n
    have HCL := hid hc.lt
    obtain ⟨ua, un, uc⟩ := x5
    clear hc hu hq hTC hTX hL2 HC1 HU1 HLN HLM
    clear kPB0 kPB2 kPB3
    have kPB0 : v13.cell? ⟨w.heap.size, 0, none⟩ = some (.int .i64 d) := (BoxAt.cell PB.out 0).trans rfl
    have kPB2 : v13.cell? ⟨w.heap.size, 2, none⟩ = some (.slice xa N xc) := (BoxAt.cell PB.out 2).trans rfl
    have kPB3 : v13.cell? ⟨w.heap.size, 3, none⟩ = some (.slice sa M sc) := (BoxAt.cell PB.out 3).trans rfl
    clear hb
    have FL5 := hid trivial
    have FL6 := hid trivial
    go_wp2_with (first
      | (have hfl := FL5.out
         refine wpList_new rfl 25 rfl _ Try.zeroBf ?_
         intro v14 b h z
         have YB := hid (show BoxAt v14 v13.heap.size 25 #[.int .i64 0, .bool false, .slice none 0 0, .slice none 0 0] from b)
         have PB := hid (PB.out.belowAll h)
         have WB := hid (WB.out.belowAll h)
         have SB := hid (SB.out.belowAll h)
         have XB := hid (XB.out.belowAll h)
         have HWV := hid (HWV.out.below h)
         have HWL := hid (HWL.out.below h)
         have HC2 := hid (HC2.out.below h)
         have HB := hid (HB.out.trans (h.mono HB.out.size))
         have hsv14 : v13.heap.size + 1 ≤ v14.heap.size := by first | exact h.size | omega
         clear kPB0 kPB2 kPB3
         have kPB0 : v14.cell? ⟨w.heap.size, 0, none⟩ = some (.int .i64 d) := (BoxAt.cell PB.out 0).trans rfl
         have kPB2 : v14.cell? ⟨w.heap.size, 2, none⟩ = some (.slice xa N xc) := (BoxAt.cell PB.out 2).trans rfl
         have kPB3 : v14.cell? ⟨w.heap.size, 3, none⟩ = some (.slice sa M sc) := (BoxAt.cell PB.out 3).trans rfl
         clear b h z hfl FL5)
      | (have hfl := FL6.out
         refine wpList_store_whole rfl 25 _ _ rfl rfl (v13.heap.size) rfl [.int .i64 d, .bool k, .slice ua un uc, .slice u5.a u5.n u5.c] rfl _ _ YB.out rfl Try.infoBf (by simp [Value.oneCell']) ?_
         intro v15 b g z
         have hsv15 : v14.heap.size ≤ v15.heap.size := by omega
         have HWV := hid (HWV.out.put g YB.out (by decide))
         have HWL := hid (HWL.out.put g YB.out (by decide))
         have HC2 := hid (HC2.out.put g YB.out (by decide))
         have YB := hid (show BoxAt v15 (v13.heap.size) 25 #[.int .i64 d, .bool k, .slice ua un uc, .slice u5.a u5.n u5.c] from b)
         have PB := hid (PB.out.grown g (fun e => by have := Option.some.inj e; omega))
         have WB := hid (WB.out.grown g (fun e => by have := Option.some.inj e; omega))
         have SB := hid (SB.out.grown g (fun e => by have := Option.some.inj e; omega))
         have XB := hid (XB.out.grown g (fun e => by have := Option.some.inj e; omega))
         have HB := hid (HB.out.trans (grown_below g (by omega) (by omega)))
         clear kPB0 kPB2 kPB3
         have kPB0 : v15.cell? ⟨w.heap.size, 0, none⟩ = some (.int .i64 d) := (BoxAt.cell PB.out 0).trans rfl
         have kPB2 : v15.cell? ⟨w.heap.size, 2, none⟩ = some (.slice xa N xc) := (BoxAt.cell PB.out 2).trans rfl
         have kPB3 : v15.cell? ⟨w.heap.size, 3, none⟩ = some (.slice sa M sc) := (BoxAt.cell PB.out 3).trans rfl
         clear b g z hfl FL6
         refine Hid.out ?_)
      | fail)
    refine hid ?_
    clear kPB0 kPB2 kPB3
    have kPB0 : v15.cell? ⟨w.heap.size, 0, none⟩ = some (.int .i64 d) := (BoxAt.cell PB.out 0).trans rfl
    have kPB2 : v15.cell? ⟨w.heap.size, 2, none⟩ = some (.slice xa N xc) := (BoxAt.cell PB.out 2).trans rfl
    have kPB3 : v15.cell? ⟨w.heap.size, 3, none⟩ = some (.slice sa M sc) := (BoxAt.cell PB.out 3).trans rfl
    have kYB2 : v15.cell? ⟨v13.heap.size, 2, none⟩ = some (.slice ua un uc) := (BoxAt.cell YB.out 2).trans rfl
    by_cases h0 : 0 < un
    · have hL0 : 0 < L2.length := by have : un = L2.length := HCN.out; omega
      obtain ⟨G, cap, hgv, -⟩ := owns_formQ HC2.out hL0
      simp only [Sl.val, Value.slice.injEq] at hgv
      obtain ⟨rfl, -, -⟩ := hgv
      obtain ⟨hG1, hG2⟩ := HCL.out G rfl
      obtain ⟨E, hE⟩ : ∃ E, L2.getD 0 0 = E := ⟨_, rfl⟩
      have HE := hid hE
      have hG3 : v13.heap.size ≤ v15.heap.size := by omega
      have hu0 : (0 : Int) < (un : Int) := by omega
      have hu1 : (1 : Int) ≤ (un : Int) := by omega
      clear hE
      go_wp2_with fail
      clear kPB0 kPB2 kPB3 kYB2
      have PB := hid (BoxAt.drew PB.out)
      have WB := hid (BoxAt.drew WB.out)
      have SB := hid (BoxAt.drew SB.out)
      have XB := hid (BoxAt.drew XB.out)
      have YB := hid (BoxAt.drew YB.out)
      have HWV := hid (HWV.out.below ((Below.refl v15.heap.size v15).drew))
      have HWL := hid (HWL.out.below ((Below.refl v15.heap.size v15).drew))
      have HC2 := hid (HC2.out.below ((Below.refl v15.heap.size v15).drew))
      have HB := hid HB.out.drew
      have hsv16 : v15.heap.size ≤ v15.drew.heap.size := Nat.le_refl _
      refine wp_region_held_drew (S := (fun w' : World => BoxAt w' (v13.heap.size) 25 #[.int .i64 d, .bool k, .slice (some ⟨G, 0, none⟩) un uc, .slice u5.a u5.n u5.c])) (by kernel_rfl) (YB.out) (fun hHeld => ?_)
      generalize v15.drew = v16 at *
      refine wpAnyH_take (i := 0) (oi := { dst := some 64, op := Op.fieldAddr 25 (Operand.tmp 10) 2, type := 0, pos := "more.go:62", after := _, guard := none }) (v := ?_) rfl (by kernel_rfl) (by kernel_rfl) (by kernel_rfl) (fun _ _ _ h => h) (Or.inl ⟨by rfl, ?_⟩) (by assumption) ?_
      rotate_left
      · (intro w hSw; (try dsimp only at hSw); go_simp; try with_reducible rfl)
      simp only [Act.put, List.setIfInBounds_toArray, List.set_cons_zero, List.set_cons_succ]
      refine wpAnyH_take (i := 1) (oi := { dst := some 65, op := Op.load 22 (Operand.tmp 64), type := 22, pos := "more.go:62", after := _, guard := none }) (v := ?_) rfl (by kernel_rfl) (by kernel_rfl) (by kernel_rfl) (fun _ _ _ h => h) (Or.inl ⟨by rfl, ?_⟩) (by assumption) ?_
      rotate_left
      · (intro W hSw; (try dsimp only at hSw); have hs0S := hSw; have c0_0 : W.cell? ⟨v13.heap.size, 0, none⟩ = some (.int .i64 d) := (BoxAt.cell hs0S 0).trans rfl; have c0_1 : W.cell? ⟨v13.heap.size, 1, none⟩ = some (.bool k) := (BoxAt.cell hs0S 1).trans rfl; have c0_2 : W.cell? ⟨v13.heap.size, 2, none⟩ = some (.slice (some ⟨G, 0, none⟩) un uc) := (BoxAt.cell hs0S 2).trans rfl; have c0_3 : W.cell? ⟨v13.heap.size, 3, none⟩ = some (.slice u5.a u5.n u5.c) := (BoxAt.cell hs0S 3).trans rfl; clear hs0S; go_simp; try with_reducible rfl)
      simp only [Act.put, List.setIfInBounds_toArray, List.set_cons_zero, List.set_cons_succ]
      refine wpAnyH_take (i := 2) (oi := { dst := some 66, op := Op.fieldAddr 25 (Operand.tmp 10) 2, type := 0, pos := "more.go:62", after := _, guard := none }) (v := ?_) rfl (by kernel_rfl) (by kernel_rfl) (by kernel_rfl) (fun _ _ _ h => h) (Or.inl ⟨by rfl, ?_⟩) (by assumption) ?_
      rotate_left
      · (intro w hSw; (try dsimp only at hSw); go_simp; try with_reducible rfl)
      simp only [Act.put, List.setIfInBounds_toArray, List.set_cons_zero, List.set_cons_succ]
      refine wpAnyH_take (i := 3) (oi := { dst := some 67, op := Op.load 22 (Operand.tmp 66), type := 22, pos := "more.go:62", after := _, guard := none }) (v := ?_) rfl (by kernel_rfl) (by kernel_rfl) (by kernel_rfl) (fun _ _ _ h => h) (Or.inl ⟨by rfl, ?_⟩) (by assumption) ?_
      rotate_left
      · (intro W hSw; (try dsimp only at hSw); have hs0S := hSw; have c0_0 : W.cell? ⟨v13.heap.size, 0, none⟩ = some (.int .i64 d) := (BoxAt.cell hs0S 0).trans rfl; have c0_1 : W.cell? ⟨v13.heap.size, 1, none⟩ = some (.bool k) := (BoxAt.cell hs0S 1).trans rfl; have c0_2 : W.cell? ⟨v13.heap.size, 2, none⟩ = some (.slice (some ⟨G, 0, none⟩) un uc) := (BoxAt.cell hs0S 2).trans rfl; have c0_3 : W.cell? ⟨v13.heap.size, 3, none⟩ = some (.slice u5.a u5.n u5.c) := (BoxAt.cell hs0S 3).trans rfl; clear hs0S; go_simp; try with_reducible rfl)
      simp only [Act.put, List.setIfInBounds_toArray, List.set_cons_zero, List.set_cons_succ]
      refine wpAnyH_take (i := 4) (oi := { dst := some 68, op := Op.indexAddr 22 (Operand.tmp 67) (Operand.const (Value.int IntKind.i64 0)), type := 0, pos := "more.go:62", after := _, guard := none }) (v := ?_) rfl (by kernel_rfl) (by kernel_rfl) (by kernel_rfl) (fun _ _ _ h => h) (Or.inl ⟨by rfl, ?_⟩) (by assumption) ?_
      rotate_left
      · (intro w hSw; (try dsimp only at hSw); go_simp; try with_reducible rfl)
      simp only [Act.put, List.setIfInBounds_toArray, List.set_cons_zero, List.set_cons_succ]
      refine wpAnyH_ready (rs := [5]) (by kernel_rfl) (by simp) (AllReadyH.cons (o := { dst := some 69, op := Op.load 3 (Operand.tmp 68), type := 3, pos := "more.go:62", after := _, guard := none }) rfl (fun K3006 hK3006 => ?_) AllReadyH.nil)
      have cG : v16.cell? ⟨G, 0, none⟩ = some (.int .i64 E) := (by rw [← HE.out]; exact OI.at HC2.out 0 hL0)
      go_simp
      clear cG
      refine hK3006.out _ _ (YB.out) (fun hHeld3006 => ?_)
      clear hK3006 K3006
      try simp only [Act.put, List.setIfInBounds_toArray, List.set_cons_zero, List.set_cons_succ]
      refine wpAnyH_take (i := 6) (oi := { dst := some 70, op := Op.binOp BinOp.add 3 (Operand.tmp 69) (Operand.const (Value.int IntKind.i64 1)) 3, type := 3, pos := "more.go:62", after := _, guard := none }) (v := ?_) rfl (by kernel_rfl) (by kernel_rfl) (by kernel_rfl) (fun _ _ _ h => h) (Or.inl ⟨by rfl, ?_⟩) (by assumption) ?_
      rotate_left
      · (intro W hSw; (try dsimp only at hSw); have hs0S := hSw; clear hs0S; go_simp; try with_reducible rfl)
      simp only [Act.put, List.setIfInBounds_toArray, List.set_cons_zero, List.set_cons_succ]
      refine wpAnyH_take (i := 7) (oi := { dst := some 71, op := Op.indexAddr 22 (Operand.tmp 65) (Operand.const (Value.int IntKind.i64 0)), type := 0, pos := "more.go:62", after := _, guard := none }) (v := ?_) rfl (by kernel_rfl) (by kernel_rfl) (by kernel_rfl) (fun _ _ _ h => h) (Or.inl ⟨by rfl, ?_⟩) (by assumption) ?_
      rotate_left
      · (intro w hSw; (try dsimp only at hSw); go_simp; try with_reducible rfl)
      simp only [Act.put, List.setIfInBounds_toArray, List.set_cons_zero, List.set_cons_succ]
      refine wpAnyH_ready (rs := [8]) (by kernel_rfl) (by simp) (AllReadyH.cons (o := { dst := none, op := Op.store 3 (Operand.tmp 71) (Operand.tmp 70), type := 0, pos := "more.go:62", after := _, guard := none }) rfl (fun K3009 hK3009 => ?_) AllReadyH.nil)
      refine step_set_I rfl 3 _ _ rfl _ G _ _ L2 HC2.out 0 hL0 rfl _ rfl rfl rfl (by kernel_rfl) ?_
      intro v17 g z
      have hsv17 : v16.heap.size ≤ v17.heap.size := by omega
      have PB := hid (PB.out.grown g (fun e => by have := Option.some.inj e; omega))
      have WB := hid (WB.out.grown g (fun e => by have := Option.some.inj e; omega))
      have SB := hid (SB.out.grown g (fun e => by have := Option.some.inj e; omega))
      have XB := hid (XB.out.grown g (fun e => by have := Option.some.inj e; omega))
      have YB := hid (YB.out.grown g (fun e => by have := Option.some.inj e; omega))
      have HWV := hid (HWV.out.far g (fun k hk => by have := hwvlt.out k hk; omega))
      have HWL := hid (HWL.out.over HC2.out g)
      have HB := hid (HB.out.trans (grown_below g (by omega) (by omega)))
      clear g z
      refine hK3009.out _ _ (YB.out) (fun hHeld3009 => ?_)
      clear hK3009 K3009
      try simp only [Act.put]
      refine wpAnyH_done (by kernel_rfl) ?_ _
      clear hHeld hHeld3006 hHeld3009
      have kPB0 : v17.cell? ⟨w.heap.size, 0, none⟩ = some (.int .i64 d) := (BoxAt.cell PB.out 0).trans rfl
      have kPB2 : v17.cell? ⟨w.heap.size, 2, none⟩ = some (.slice xa N xc) := (BoxAt.cell PB.out 2).trans rfl
      have kPB3 : v17.cell? ⟨w.heap.size, 3, none⟩ = some (.slice sa M sc) := (BoxAt.cell PB.out 3).trans rfl
      have kYB2 : v17.cell? ⟨v13.heap.size, 2, none⟩ = some (.slice (some ⟨G, 0, none⟩) un uc) := (BoxAt.cell YB.out 2).trans rfl
      clear HC2
      go_wp2_with (first
        | (refine wpList_load_box rfl 25 _ rfl (w.heap.size) rfl _ _ PB.out _ Try.underlying25 Try.infoBf ?_)
        | (refine wpList_load_box rfl 25 _ rfl (v4.heap.size) rfl _ _ SB.out _ Try.underlying25 Try.infoBf ?_)
        | fail)
      refine (rbsame_any d k (vs := ⟨xa, N, xc⟩) (ws := qv6) (s := ⟨sa, M, sc⟩) (r := qv7) (HX.out.below HB.out) HWV.out.sees (HV.out.below HB.out) HWL.out.sees).mono ?_
      rintro e v18 ⟨rfl, hb⟩
      have PB := hid (PB.out.belowAll hb)
      have WB := hid (WB.out.belowAll hb)
      have SB := hid (SB.out.belowAll hb)
      have XB := hid (XB.out.belowAll hb)
      have YB := hid (YB.out.belowAll hb)
      have HWV := hid (HWV.out.below hb)
      have HWL := hid (HWL.out.below hb)
      have HB := hid (HB.out.trans (hb.mono HB.out.size))
      have hsv18 : v17.heap.size ≤ v18.heap.size := by first | exact hb.size | omega
      clear kPB0 kPB2 kPB3 kYB2
      have kPB0 : v18.cell? ⟨w.heap.size, 0, none⟩ = some (.int .i64 d) := (BoxAt.cell PB.out 0).trans rfl
      have kPB2 : v18.cell? ⟨w.heap.size, 2, none⟩ = some (.slice xa N xc) := (BoxAt.cell PB.out 2).trans rfl
      have kPB3 : v18.cell? ⟨w.heap.size, 3, none⟩ = some (.slice sa M sc) := (BoxAt.cell PB.out 3).trans rfl
      have kYB2 : v18.cell? ⟨v13.heap.size, 2, none⟩ = some (.slice (some ⟨G, 0, none⟩) un uc) := (BoxAt.cell YB.out 2).trans rfl
      clear hb
      clear kPB0 kPB2 kPB3 kYB2
      have kPB0 : v18.cell? ⟨w.heap.size, 0, none⟩ = some (.int .i64 d) := (BoxAt.cell PB.out 0).trans rfl
      have kXB0 : v18.cell? ⟨v9.heap.size, 0, none⟩ = some (.int .i64 d) := (BoxAt.cell XB.out 0).trans rfl
      have kYB2 : v18.cell? ⟨v13.heap.size, 2, none⟩ = some (.slice (some ⟨G, 0, none⟩) un uc) := (BoxAt.cell YB.out 2).trans rfl
      go_wp2
      go_ret
      exact ⟨rfl, HB.out⟩
    · have hu0 : ¬ (0 : Int) < (un : Int) := by omega
      go_wp2_with (first
        | (refine wpList_load_box rfl 25 _ rfl (w.heap.size) rfl _ _ PB.out _ Try.underlying25 Try.infoBf ?_)
        | (refine wpList_load_box rfl 25 _ rfl (v4.heap.size) rfl _ _ SB.out _ Try.underlying25 Try.infoBf ?_)
        | fail)
      refine (rbsame_any d k (vs := ⟨xa, N, xc⟩) (ws := qv6) (s := ⟨sa, M, sc⟩) (r := qv7) (HX.out.below HB.out) HWV.out.sees (HV.out.below HB.out) HWL.out.sees).mono ?_
      rintro e v16 ⟨rfl, hb⟩
      have PB := hid (PB.out.belowAll hb)
      have WB := hid (WB.out.belowAll hb)
      have SB := hid (SB.out.belowAll hb)
      have XB := hid (XB.out.belowAll hb)
      have YB := hid (YB.out.belowAll hb)
      have HWV := hid (HWV.out.below hb)
      have HWL := hid (HWL.out.below hb)
      have HC2 := hid (HC2.out.below hb)
      have HB := hid (HB.out.trans (hb.mono HB.out.size))
      have hsv16 : v15.heap.size ≤ v16.heap.size := by first | exact hb.size | omega
      clear kPB0 kPB2 kPB3 kYB2
      have kPB0 : v16.cell? ⟨w.heap.size, 0, none⟩ = some (.int .i64 d) := (BoxAt.cell PB.out 0).trans rfl
      have kPB2 : v16.cell? ⟨w.heap.size, 2, none⟩ = some (.slice xa N xc) := (BoxAt.cell PB.out 2).trans rfl
      have kPB3 : v16.cell? ⟨w.heap.size, 3, none⟩ = some (.slice sa M sc) := (BoxAt.cell PB.out 3).trans rfl
      have kYB2 : v16.cell? ⟨v13.heap.size, 2, none⟩ = some (.slice ua un uc) := (BoxAt.cell YB.out 2).trans rfl
      clear hb
      clear kPB0 kPB2 kPB3 kYB2
      have kPB0 : v16.cell? ⟨w.heap.size, 0, none⟩ = some (.int .i64 d) := (BoxAt.cell PB.out 0).trans rfl
      have kXB0 : v16.cell? ⟨v9.heap.size, 0, none⟩ = some (.int .i64 d) := (BoxAt.cell XB.out 0).trans rfl
      have kYB2 : v16.cell? ⟨v13.heap.size, 2, none⟩ = some (.slice ua un uc) := (BoxAt.cell YB.out 2).trans rfl
      go_wp2
      go_ret
      exact ⟨rfl, HB.out⟩

end Go.Proofs.Ytehpmjaldghdiaa
