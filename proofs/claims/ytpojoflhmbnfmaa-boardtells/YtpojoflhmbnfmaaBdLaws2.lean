/-
  BoardTells: the walk.
-/
import Derived.Test.YtpojoflhmbnfmaaBdAwake
import Derived.Test.YtpojoflhmbnfmaaBdOpen
import Derived.BigQuiet
namespace Go.Proofs.Ytpojoflhmbnfmaa
open Go.RowKit
set_option linter.unusedVariables false


theorem addP_false (l : List Wt) (y : Wt) : addP l y false = l ++ [y] := by
  unfold addP putP
  simp
theorem readL_next (l : List Wt) (i : Nat) (hi : i < l.length) (y : Wt) (hy : l.getD i Wt.zero = y) : readL false true (l.take i) y = l.take (i + 1) := by
  subst hy
  show addP (l.take i) (l.getD i Wt.zero) false = _
  rw [addP_false, take_snoc l i hi]
theorem allP_length (l : List Wt) (c v : Int) : (allP l c v).length = l.length := by simp [allP]
theorem allP_get (l : List Wt) (c v : Int) (i : Nat) (hi : i < l.length) : (allP l c v).getD i Wk.zero = wakeW c v (l.getD i Wt.zero) := by
  simp [allP, List.getD, List.getElem?_eq_getElem hi]


set_option maxRecDepth 100000 in
set_option maxHeartbeats 3200000 in
theorem walk_BoardTells (w : World) (v : Value) (l : List Wt) (hv : SeesWt w v l) (hf : ∀ r ∈ l, r.fit) (x : Int) (hx : (Lit.int .i64 x).wf = true) :
    Calls Try.prog 4 #[v, .int .i64 x] w fun e w' => e = .returned (.bool true) ∧ Below w.heap.size w w' := by
  clear hx
  clear hf
  have HV := hid hv
  obtain ⟨al, cl, rfl, hl1, hl2, hlc⟩ := hv.form
  unfold maxLen at hl2
  have HC := hid hlc
  clear hv hlc
  have HB := hid (Below.refl w.heap.size w)
  go_enter Try.func4, Try.ntmps4
  go_wp2_with fail
  refine (bdawake_any _).mono ?_
  rintro e v1 ⟨rfl, hb⟩
  have HB := hid (HB.out.trans (hb.mono HB.out.size))
  have hsv1 : w.heap.size ≤ v1.heap.size := by first | exact hb.size | omega
  clear hb
  by_cases h60 : 60 < l.length
  · have h60' : (60 : Int) < l.length := by omega
    go_wp2
    go_ret
    exact ⟨rfl, HB.out⟩
  have h60' : ¬ (60 : Int) < l.length := by omega
  have hl : l.length ≤ 800000 := by omega
  have FL1 := hid trivial
  have FL2 := hid trivial
  go_wp2_with (first
    | (have hfl := FL1.out
       refine wpList_new rfl 24 rfl _ Try.zeroBd ?_
       intro v2 b h z
       have BB := hid (show BoxAt v2 v1.heap.size 24 #[.bool false, .int .i64 0, .slice none 0 0] from b)
       have HB := hid (HB.out.trans (h.mono HB.out.size))
       have hsv2 : v1.heap.size + 1 ≤ v2.heap.size := by first | exact h.size | omega
       clear b h z hfl FL1)
    | (have hfl := FL2.out
       refine wpList_store_whole rfl 24 _ _ rfl rfl (v1.heap.size) rfl [.bool false, .int .i64 0, .slice none 0 0] rfl _ _ BB.out rfl Try.infoBd (by simp [Value.oneCell']) ?_
       intro v3 b g z
       have hsv3 : v2.heap.size ≤ v3.heap.size := by omega
       have BB := hid (show BoxAt v3 (v1.heap.size) 24 #[.bool false, .int .i64 0, .slice none 0 0] from b)
       have HB := hid (HB.out.trans (grown_below g (by omega) (by omega)))
       clear b g z hfl FL2
       refine Hid.out ?_)
    | fail)
  refine hid ?_
  go_wp2_with fail
  go_loopw [7] (fun t wc => ∃ (i : Nat) (u : Sl), i ≤ l.length ∧ t = .int .i64 i ∧ BoxAt wc (v1.heap.size) 24 #[.bool false, .int .i64 0, .slice u.a u.n u.c] ∧ OWt wc w.heap.size u.val (l.take i) ∧ Below w.heap.size w wc) (fun t _ => l.length - (intOf t).toNat)
  case atStart => exact ⟨0, ⟨none, 0, 0⟩, by omega, rfl, BB.out, OWt.nil _ _, HB.out⟩
  case round =>
    clear BB HB
    obtain ⟨i, u, hi, rfl, hbb, hou, hbel⟩ := hrel
    have BB := hid hbb
    have HU := hid hou
    have HB := hid hbel
    have hsr : v1.heap.size + 1 ≤ wr.heap.size := hbb.lt
    have hsw : w.heap.size ≤ wr.heap.size := hbel.size
    clear hbb hou hbel
    by_cases hlt : i < l.length
    · obtain ⟨bb, off, rfl, hbw, hcell⟩ := HC.out (by omega)
      have c0 := hid (hcell i hlt 0 (by decide))
      have c1 := hid (hcell i hlt 1 (by decide))
      have c2 := hid (hcell i hlt 2 (by decide))
      obtain ⟨y, hy⟩ : ∃ y, l.getD i Wt.zero = y := ⟨_, rfl⟩
      have HN := hid (readL_next l i hlt y hy)
      rw [hy] at c0 c1 c2
      clear hy hcell HC
      obtain ⟨y0, y1, y2⟩ := y
      simp only [Wt.cells, List.getD_cons_zero, List.getD_cons_succ, Nat.add_zero] at c0 c1 c2
      go_wp2_with fail
      have BB := hid (BoxAt.drew BB.out)
      have HU := hid (HU.out.below ((Below.refl wr.heap.size wr).drew))
      have HB := hid HB.out.drew
      have hsv4 : wr.heap.size ≤ wr.drew.heap.size := Nat.le_refl _
      refine wp_region_held_drew (S := (fun w' : World => BoxAt w' (v1.heap.size) 24 #[.bool false, .int .i64 0, .slice u.a u.n u.c] ∧ w'.cell? ⟨bb, off + i * 3, none⟩ = some (.int .i64 y0) ∧ w'.cell? ⟨bb, off + i * 3 + 1, none⟩ = some (.int .i64 y1) ∧ w'.cell? ⟨bb, off + i * 3 + 2, none⟩ = some (.int .i64 y2))) (by kernel_rfl) (⟨BB.out, (HB.out.cell (by exact hbw)).trans c0.out, (HB.out.cell (by exact hbw)).trans c1.out, (HB.out.cell (by exact hbw)).trans c2.out⟩) (fun hHeld => ?_)
      generalize wr.drew = v4 at *
      refine wpAnyH_take (i := 0) (oi := { dst := some 37, op := Op.load 24 (Operand.tmp 6), type := 24, pos := "law.go:44", after := #[], guard := none }) (v := ?_) rfl (by kernel_rfl) (by kernel_rfl) (by kernel_rfl) (fun _ _ _ h => h) (Or.inl ⟨by rfl, ?_⟩) (by assumption) ?_
      rotate_left
      · (intro W hSw; (try dsimp only at hSw); obtain ⟨x0, x1, x2, x3⟩ := hSw; have c0_0 : W.cell? ⟨v1.heap.size, 0, none⟩ = some (.bool false) := (BoxAt.cell x0 0).trans rfl; have c0_1 : W.cell? ⟨v1.heap.size, 1, none⟩ = some (.int .i64 0) := (BoxAt.cell x0 1).trans rfl; have c0_2 : W.cell? ⟨v1.heap.size, 2, none⟩ = some (.slice u.a u.n u.c) := (BoxAt.cell x0 2).trans rfl; clear x0; go_simp; try with_reducible rfl)
      simp only [Act.put, List.setIfInBounds_toArray, List.set_cons_zero, List.set_cons_succ]
      refine wpAnyH_take (i := 1) (oi := { dst := some 38, op := Op.move (Operand.tmp 0), type := 22, pos := "law.go:44", after := #[], guard := none }) (v := ?_) rfl (by kernel_rfl) (by kernel_rfl) (by kernel_rfl) (fun _ _ _ h => h) (Or.inl ⟨by rfl, ?_⟩) (by assumption) ?_
      rotate_left
      · (intro w hSw; (try dsimp only at hSw); go_simp; try with_reducible rfl)
      simp only [Act.put, List.setIfInBounds_toArray, List.set_cons_zero, List.set_cons_succ]
      refine wpAnyH_take (i := 2) (oi := { dst := some 39, op := Op.move (Operand.tmp 7), type := 3, pos := "law.go:44", after := #[], guard := none }) (v := ?_) rfl (by kernel_rfl) (by kernel_rfl) (by kernel_rfl) (fun _ _ _ h => h) (Or.inl ⟨by rfl, ?_⟩) (by assumption) ?_
      rotate_left
      · (intro w hSw; (try dsimp only at hSw); go_simp; try with_reducible rfl)
      simp only [Act.put, List.setIfInBounds_toArray, List.set_cons_zero, List.set_cons_succ]
      refine wpAnyH_take (i := 3) (oi := { dst := some 40, op := Op.indexAddr 22 (Operand.tmp 38) (Operand.tmp 39), type := 0, pos := "law.go:44", after := #[{ on := 1, ground := Ground.data }, { on := 2, ground := Ground.data }], guard := none }) (v := ?_) rfl (by kernel_rfl) (by kernel_rfl) (by kernel_rfl) (fun _ _ _ h => h) (Or.inl ⟨by rfl, ?_⟩) (by assumption) ?_
      rotate_left
      · (intro w hSw; (try dsimp only at hSw); go_simp; try with_reducible rfl)
      simp only [Act.put, List.setIfInBounds_toArray, List.set_cons_zero, List.set_cons_succ]
      refine wpAnyH_take (i := 4) (oi := { dst := some 41, op := Op.load 26 (Operand.tmp 40), type := 26, pos := "law.go:44", after := #[{ on := 3, ground := Ground.data }], guard := none }) (v := ?_) rfl (by kernel_rfl) (by kernel_rfl) (by kernel_rfl) (fun _ _ _ h => h) (Or.inl ⟨by rfl, ?_⟩) (by assumption) ?_
      rotate_left
      · (intro W hSw; (try dsimp only at hSw); obtain ⟨x0, x1, x2, x3⟩ := hSw; have c0_0 : W.cell? ⟨v1.heap.size, 0, none⟩ = some (.bool false) := (BoxAt.cell x0 0).trans rfl; have c0_1 : W.cell? ⟨v1.heap.size, 1, none⟩ = some (.int .i64 0) := (BoxAt.cell x0 1).trans rfl; have c0_2 : W.cell? ⟨v1.heap.size, 2, none⟩ = some (.slice u.a u.n u.c) := (BoxAt.cell x0 2).trans rfl; clear x0; go_simp; try with_reducible rfl)
      simp only [Act.put, List.setIfInBounds_toArray, List.set_cons_zero, List.set_cons_succ]
      refine wpAnyH_ready (rs := [5, 10]) (by kernel_rfl) (by simp) (AllReadyH.cons (o := { dst := some 42, op := Op.call { callee := Callee.value (Operand.func 15), args := #[Operand.tmp 37, Operand.tmp 41, Operand.const (Value.bool true)], argTypes := #[24, 26, 4] }, type := 34, pos := "law.go:44", after := #[{ on := 0, ground := Ground.data }, { on := 4, ground := Ground.data }], guard := none }) rfl (fun K1006 hK1006 => ?b1006_5) (AllReadyH.cons (o := { dst := some 8, op := Op.alloc 24, type := 0, pos := "law.go:44", after := #[], guard := none }) rfl (fun K1006 hK1006 => ?b1006_10) AllReadyH.nil))
      case' b1006_5 =>
        have HBt := HB.out.size
        go_simp
        refine (bread_any false 0 (s := u) ⟨y0, y1, y2⟩ true HU.out.sees (by simp; omega)).mono ?_
        rintro e v5 ⟨q, rfl, hq, hb⟩
        have BB := hid (BB.out.belowAll hb)
        have HU := hid (HU.out.below hb)
        have HB := hid (HB.out.trans (hb.mono HB.out.size))
        have hsv5 : v4.heap.size ≤ v5.heap.size := by first | exact hb.size | omega
        rw [show readC false true = (6 : Int) from rfl, show readV false 0 = (0 : Int) from rfl]
        rw [HN.out] at hq
        have HQ := hid (hq.mono HBt)
        clear hq HBt
        clear hb
        clear HU
        refine hK1006.out _ _ (⟨BB.out, (HB.out.cell (by exact hbw)).trans c0.out, (HB.out.cell (by exact hbw)).trans c1.out, (HB.out.cell (by exact hbw)).trans c2.out⟩) (fun hHeld1006 => ?_)
        clear hK1006 K1006
        try simp only [Act.put, List.setIfInBounds_toArray, List.set_cons_zero, List.set_cons_succ]
        refine wpAnyH_take (i := 6) (oi := { dst := some 36, op := Op.move (Operand.tmp 42), type := 34, pos := "law.go:44", after := #[{ on := 5, ground := Ground.data }], guard := none }) (v := ?_) rfl (by kernel_rfl) (by kernel_rfl) (by kernel_rfl) (fun _ _ _ h => h) (Or.inl ⟨by rfl, ?_⟩) (by assumption) ?_
        rotate_left
        · (intro w hSw; (try dsimp only at hSw); go_simp; try with_reducible rfl)
        simp only [Act.put, List.setIfInBounds_toArray, List.set_cons_zero, List.set_cons_succ]
        refine wpAnyH_take (i := 7) (oi := { dst := some 43, op := Op.extract (Operand.tmp 36) 0, type := 24, pos := "law.go:44", after := #[{ on := 6, ground := Ground.data }], guard := none }) (v := ?_) rfl (by kernel_rfl) (by kernel_rfl) (by kernel_rfl) (fun _ _ _ h => h) (Or.inl ⟨by rfl, ?_⟩) (by assumption) ?_
        rotate_left
        · (intro w hSw; (try dsimp only at hSw); go_simp; try with_reducible rfl)
        simp only [Act.put, List.setIfInBounds_toArray, List.set_cons_zero, List.set_cons_succ]
        refine wpAnyH_take (i := 8) (oi := { dst := some 44, op := Op.extract (Operand.tmp 36) 1, type := 3, pos := "law.go:44", after := #[{ on := 6, ground := Ground.data }, { on := 11, ground := Ground.gcOnly Departure.lateStores }], guard := none }) (v := ?_) rfl (by kernel_rfl) (by kernel_rfl) (by kernel_rfl) (fun _ _ _ h => h) (Or.inl ⟨by rfl, ?_⟩) (by assumption) ?_
        rotate_left
        · (intro w hSw; (try dsimp only at hSw); go_simp; try with_reducible rfl)
        simp only [Act.put, List.setIfInBounds_toArray, List.set_cons_zero, List.set_cons_succ]
        refine wpAnyH_take (i := 9) (oi := { dst := some 45, op := Op.extract (Operand.tmp 36) 2, type := 3, pos := "law.go:44", after := #[{ on := 6, ground := Ground.data }, { on := 12, ground := Ground.gcOnly Departure.lateStores }], guard := none }) (v := ?_) rfl (by kernel_rfl) (by kernel_rfl) (by kernel_rfl) (fun _ _ _ h => h) (Or.inl ⟨by rfl, ?_⟩) (by assumption) ?_
        rotate_left
        · (intro w hSw; (try dsimp only at hSw); go_simp; try with_reducible rfl)
        simp only [Act.put, List.setIfInBounds_toArray, List.set_cons_zero, List.set_cons_succ]
        refine wpAnyH_ready (rs := [10]) (by kernel_rfl) (by simp) (AllReadyH.cons (o := { dst := some 8, op := Op.alloc 24, type := 0, pos := "law.go:44", after := #[], guard := none }) rfl (fun K1011 hK1011 => ?_) AllReadyH.nil)
        refine step_new rfl 24 rfl _ Try.zeroBd ?_
        intro v6 b h z
        have CB := hid (show BoxAt v6 v5.heap.size 24 #[.bool false, .int .i64 0, .slice none 0 0] from b)
        have BB := hid (BB.out.belowAll h)
        have HQ := hid (HQ.out.below h)
        have HB := hid (HB.out.trans (h.mono HB.out.size))
        have hsv6 : v5.heap.size + 1 ≤ v6.heap.size := by first | exact h.size | omega
        clear b h z
        refine hK1011.out _ _ (⟨BB.out, (HB.out.cell (by exact hbw)).trans c0.out, (HB.out.cell (by exact hbw)).trans c1.out, (HB.out.cell (by exact hbw)).trans c2.out⟩) (fun hHeld1011 => ?_)
        clear hK1011 K1011
        try simp only [Act.put, List.setIfInBounds_toArray, List.set_cons_zero, List.set_cons_succ]
        refine wpAnyH_ready (rs := [11]) (by kernel_rfl) (by simp) (AllReadyH.cons (o := { dst := none, op := Op.store 24 (Operand.tmp 8) (Operand.tmp 43), type := 0, pos := "law.go:44", after := #[{ on := 10, ground := Ground.data }, { on := 7, ground := Ground.data }, { on := 5, ground := Ground.chain }, { on := 0, ground := Ground.phase }, { on := 1, ground := Ground.phase }, { on := 2, ground := Ground.phase }, { on := 3, ground := Ground.phase }, { on := 4, ground := Ground.phase }, { on := 5, ground := Ground.phase }, { on := 6, ground := Ground.phase }, { on := 7, ground := Ground.phase }, { on := 8, ground := Ground.textOnly Departure.lateStores }, { on := 9, ground := Ground.textOnly Departure.lateStores }, { on := 10, ground := Ground.phase }], guard := none }) rfl (fun K1012 hK1012 => ?_) AllReadyH.nil)
        refine step_store_whole rfl 24 _ _ rfl (v5.heap.size) rfl [.bool false, .int .i64 0, .slice q.a q.n q.c] rfl _ _ CB.out rfl Try.infoBd (by simp [Value.oneCell']) ?_
        intro v7 b g z
        have hsv7 : v6.heap.size ≤ v7.heap.size := by omega
        have HQ := hid (HQ.out.put g CB.out (by decide))
        have CB := hid (show BoxAt v7 (v5.heap.size) 24 #[.bool false, .int .i64 0, .slice q.a q.n q.c] from b)
        have BB := hid (BB.out.grown g (fun e => by have := Option.some.inj e; omega))
        have HB := hid (HB.out.trans (grown_below g (by omega) (by omega)))
        clear b g z
        refine hK1012.out _ _ (⟨BB.out, (HB.out.cell (by exact hbw)).trans c0.out, (HB.out.cell (by exact hbw)).trans c1.out, (HB.out.cell (by exact hbw)).trans c2.out⟩) (fun hHeld1012 => ?_)
        clear hK1012 K1012
        try simp only [Act.put]
        refine wpAnyH_take (i := 12) (oi := { dst := some 9, op := Op.assign (Operand.tmp 44), type := 3, pos := "law.go:44", after := #[{ on := 8, ground := Ground.data }, { on := 11, ground := Ground.chain }, { on := 0, ground := Ground.phase }, { on := 1, ground := Ground.phase }, { on := 2, ground := Ground.phase }, { on := 3, ground := Ground.phase }, { on := 4, ground := Ground.phase }, { on := 5, ground := Ground.phase }, { on := 6, ground := Ground.phase }, { on := 7, ground := Ground.phase }, { on := 8, ground := Ground.phase }, { on := 9, ground := Ground.textOnly Departure.lateStores }, { on := 10, ground := Ground.phase }, { on := 11, ground := Ground.phase }], guard := none }) (v := ?_) rfl (by kernel_rfl) (by kernel_rfl) (by kernel_rfl) (fun _ _ _ h => h) (Or.inl ⟨by rfl, ?_⟩) (by assumption) ?_
        rotate_left
        · (intro w hSw; (try dsimp only at hSw); go_simp; try with_reducible rfl)
        simp only [Act.put, List.setIfInBounds_toArray, List.set_cons_zero, List.set_cons_succ]
        refine wpAnyH_take (i := 13) (oi := { dst := some 10, op := Op.assign (Operand.tmp 45), type := 3, pos := "law.go:44", after := #[{ on := 9, ground := Ground.data }, { on := 12, ground := Ground.chain }, { on := 0, ground := Ground.phase }, { on := 1, ground := Ground.phase }, { on := 2, ground := Ground.phase }, { on := 3, ground := Ground.phase }, { on := 4, ground := Ground.phase }, { on := 5, ground := Ground.phase }, { on := 6, ground := Ground.phase }, { on := 7, ground := Ground.phase }, { on := 8, ground := Ground.phase }, { on := 9, ground := Ground.phase }, { on := 10, ground := Ground.phase }, { on := 11, ground := Ground.phase }, { on := 12, ground := Ground.phase }], guard := none }) (v := ?_) rfl (by kernel_rfl) (by kernel_rfl) (by kernel_rfl) (fun _ _ _ h => h) (Or.inl ⟨by rfl, ?_⟩) (by assumption) ?_
        rotate_left
        · (intro w hSw; (try dsimp only at hSw); go_simp; try with_reducible rfl)
        simp only [Act.put, List.setIfInBounds_toArray, List.set_cons_zero, List.set_cons_succ]
        refine wpAnyH_done (by kernel_rfl) ?_ _
        clear hHeld hHeld1006 hHeld1011 hHeld1012
        have FL3 := hid trivial
        go_wp2_with (first
          | (refine wpList_load_box rfl 24 _ rfl (v5.heap.size) rfl _ _ CB.out _ Try.underlying24 Try.infoBd ?_)
          | (have hfl := FL3.out
             refine wpList_store_whole rfl 24 _ _ rfl rfl (v1.heap.size) rfl [.bool false, .int .i64 0, .slice q.a q.n q.c] rfl _ _ BB.out rfl Try.infoBd (by simp [Value.oneCell']) ?_
             intro v8 b g z
             have hsv8 : v7.heap.size ≤ v8.heap.size := by omega
             have HQ := hid (HQ.out.put g BB.out (by decide))
             have BB := hid (show BoxAt v8 (v1.heap.size) 24 #[.bool false, .int .i64 0, .slice q.a q.n q.c] from b)
             have CB := hid (CB.out.grown g (fun e => by have := Option.some.inj e; omega))
             have HB := hid (HB.out.trans (grown_below g (by omega) (by omega)))
             clear b g z hfl FL3)
          | fail)
        go_roundw
        case rel => exact ⟨i + 1, q, by omega, by go_num, BB.out, HQ.out, HB.out⟩
        case measure => simp [intOf]; omega
      case' b1006_10 =>
        refine step_new rfl 24 rfl _ Try.zeroBd ?_
        intro v5 b h z
        have CB := hid (show BoxAt v5 v4.heap.size 24 #[.bool false, .int .i64 0, .slice none 0 0] from b)
        have BB := hid (BB.out.belowAll h)
        have HU := hid (HU.out.below h)
        have HB := hid (HB.out.trans (h.mono HB.out.size))
        have hsv5 : v4.heap.size + 1 ≤ v5.heap.size := by first | exact h.size | omega
        clear b h z
        refine hK1006.out _ _ (⟨BB.out, (HB.out.cell (by exact hbw)).trans c0.out, (HB.out.cell (by exact hbw)).trans c1.out, (HB.out.cell (by exact hbw)).trans c2.out⟩) (fun hHeld1006 => ?_)
        clear hK1006 K1006
        try simp only [Act.put, List.setIfInBounds_toArray, List.set_cons_zero, List.set_cons_succ]
        refine wpAnyH_ready (rs := [5]) (by kernel_rfl) (by simp) (AllReadyH.cons (o := { dst := some 42, op := Op.call { callee := Callee.value (Operand.func 15), args := #[Operand.tmp 37, Operand.tmp 41, Operand.const (Value.bool true)], argTypes := #[24, 26, 4] }, type := 34, pos := "law.go:44", after := #[{ on := 0, ground := Ground.data }, { on := 4, ground := Ground.data }], guard := none }) rfl (fun K1015 hK1015 => ?_) AllReadyH.nil)
        have HBt := HB.out.size
        go_simp
        refine (bread_any false 0 (s := u) ⟨y0, y1, y2⟩ true HU.out.sees (by simp; omega)).mono ?_
        rintro e v6 ⟨q, rfl, hq, hb⟩
        have BB := hid (BB.out.belowAll hb)
        have CB := hid (CB.out.belowAll hb)
        have HU := hid (HU.out.below hb)
        have HB := hid (HB.out.trans (hb.mono HB.out.size))
        have hsv6 : v5.heap.size ≤ v6.heap.size := by first | exact hb.size | omega
        rw [show readC false true = (6 : Int) from rfl, show readV false 0 = (0 : Int) from rfl]
        rw [HN.out] at hq
        have HQ := hid (hq.mono HBt)
        clear hq HBt
        clear hb
        clear HU
        refine hK1015.out _ _ (⟨BB.out, (HB.out.cell (by exact hbw)).trans c0.out, (HB.out.cell (by exact hbw)).trans c1.out, (HB.out.cell (by exact hbw)).trans c2.out⟩) (fun hHeld1015 => ?_)
        clear hK1015 K1015
        try simp only [Act.put, List.setIfInBounds_toArray, List.set_cons_zero, List.set_cons_succ]
        refine wpAnyH_take (i := 6) (oi := { dst := some 36, op := Op.move (Operand.tmp 42), type := 34, pos := "law.go:44", after := #[{ on := 5, ground := Ground.data }], guard := none }) (v := ?_) rfl (by kernel_rfl) (by kernel_rfl) (by kernel_rfl) (fun _ _ _ h => h) (Or.inl ⟨by rfl, ?_⟩) (by assumption) ?_
        rotate_left
        · (intro w hSw; (try dsimp only at hSw); go_simp; try with_reducible rfl)
        simp only [Act.put, List.setIfInBounds_toArray, List.set_cons_zero, List.set_cons_succ]
        refine wpAnyH_take (i := 7) (oi := { dst := some 43, op := Op.extract (Operand.tmp 36) 0, type := 24, pos := "law.go:44", after := #[{ on := 6, ground := Ground.data }], guard := none }) (v := ?_) rfl (by kernel_rfl) (by kernel_rfl) (by kernel_rfl) (fun _ _ _ h => h) (Or.inl ⟨by rfl, ?_⟩) (by assumption) ?_
        rotate_left
        · (intro w hSw; (try dsimp only at hSw); go_simp; try with_reducible rfl)
        simp only [Act.put, List.setIfInBounds_toArray, List.set_cons_zero, List.set_cons_succ]
        refine wpAnyH_take (i := 8) (oi := { dst := some 44, op := Op.extract (Operand.tmp 36) 1, type := 3, pos := "law.go:44", after := #[{ on := 6, ground := Ground.data }, { on := 11, ground := Ground.gcOnly Departure.lateStores }], guard := none }) (v := ?_) rfl (by kernel_rfl) (by kernel_rfl) (by kernel_rfl) (fun _ _ _ h => h) (Or.inl ⟨by rfl, ?_⟩) (by assumption) ?_
        rotate_left
        · (intro w hSw; (try dsimp only at hSw); go_simp; try with_reducible rfl)
        simp only [Act.put, List.setIfInBounds_toArray, List.set_cons_zero, List.set_cons_succ]
        refine wpAnyH_take (i := 9) (oi := { dst := some 45, op := Op.extract (Operand.tmp 36) 2, type := 3, pos := "law.go:44", after := #[{ on := 6, ground := Ground.data }, { on := 12, ground := Ground.gcOnly Departure.lateStores }], guard := none }) (v := ?_) rfl (by kernel_rfl) (by kernel_rfl) (by kernel_rfl) (fun _ _ _ h => h) (Or.inl ⟨by rfl, ?_⟩) (by assumption) ?_
        rotate_left
        · (intro w hSw; (try dsimp only at hSw); go_simp; try with_reducible rfl)
        simp only [Act.put, List.setIfInBounds_toArray, List.set_cons_zero, List.set_cons_succ]
        refine wpAnyH_ready (rs := [11]) (by kernel_rfl) (by simp) (AllReadyH.cons (o := { dst := none, op := Op.store 24 (Operand.tmp 8) (Operand.tmp 43), type := 0, pos := "law.go:44", after := #[{ on := 10, ground := Ground.data }, { on := 7, ground := Ground.data }, { on := 5, ground := Ground.chain }, { on := 0, ground := Ground.phase }, { on := 1, ground := Ground.phase }, { on := 2, ground := Ground.phase }, { on := 3, ground := Ground.phase }, { on := 4, ground := Ground.phase }, { on := 5, ground := Ground.phase }, { on := 6, ground := Ground.phase }, { on := 7, ground := Ground.phase }, { on := 8, ground := Ground.textOnly Departure.lateStores }, { on := 9, ground := Ground.textOnly Departure.lateStores }, { on := 10, ground := Ground.phase }], guard := none }) rfl (fun K1020 hK1020 => ?_) AllReadyH.nil)
        refine step_store_whole rfl 24 _ _ rfl (v4.heap.size) rfl [.bool false, .int .i64 0, .slice q.a q.n q.c] rfl _ _ CB.out rfl Try.infoBd (by simp [Value.oneCell']) ?_
        intro v7 b g z
        have hsv7 : v6.heap.size ≤ v7.heap.size := by omega
        have HQ := hid (HQ.out.put g CB.out (by decide))
        have CB := hid (show BoxAt v7 (v4.heap.size) 24 #[.bool false, .int .i64 0, .slice q.a q.n q.c] from b)
        have BB := hid (BB.out.grown g (fun e => by have := Option.some.inj e; omega))
        have HB := hid (HB.out.trans (grown_below g (by omega) (by omega)))
        clear b g z
        refine hK1020.out _ _ (⟨BB.out, (HB.out.cell (by exact hbw)).trans c0.out, (HB.out.cell (by exact hbw)).trans c1.out, (HB.out.cell (by exact hbw)).trans c2.out⟩) (fun hHeld1020 => ?_)
        clear hK1020 K1020
        try simp only [Act.put]
        refine wpAnyH_take (i := 12) (oi := { dst := some 9, op := Op.assign (Operand.tmp 44), type := 3, pos := "law.go:44", after := #[{ on := 8, ground := Ground.data }, { on := 11, ground := Ground.chain }, { on := 0, ground := Ground.phase }, { on := 1, ground := Ground.phase }, { on := 2, ground := Ground.phase }, { on := 3, ground := Ground.phase }, { on := 4, ground := Ground.phase }, { on := 5, ground := Ground.phase }, { on := 6, ground := Ground.phase }, { on := 7, ground := Ground.phase }, { on := 8, ground := Ground.phase }, { on := 9, ground := Ground.textOnly Departure.lateStores }, { on := 10, ground := Ground.phase }, { on := 11, ground := Ground.phase }], guard := none }) (v := ?_) rfl (by kernel_rfl) (by kernel_rfl) (by kernel_rfl) (fun _ _ _ h => h) (Or.inl ⟨by rfl, ?_⟩) (by assumption) ?_
        rotate_left
        · (intro w hSw; (try dsimp only at hSw); go_simp; try with_reducible rfl)
        simp only [Act.put, List.setIfInBounds_toArray, List.set_cons_zero, List.set_cons_succ]
        refine wpAnyH_take (i := 13) (oi := { dst := some 10, op := Op.assign (Operand.tmp 45), type := 3, pos := "law.go:44", after := #[{ on := 9, ground := Ground.data }, { on := 12, ground := Ground.chain }, { on := 0, ground := Ground.phase }, { on := 1, ground := Ground.phase }, { on := 2, ground := Ground.phase }, { on := 3, ground := Ground.phase }, { on := 4, ground := Ground.phase }, { on := 5, ground := Ground.phase }, { on := 6, ground := Ground.phase }, { on := 7, ground := Ground.phase }, { on := 8, ground := Ground.phase }, { on := 9, ground := Ground.phase }, { on := 10, ground := Ground.phase }, { on := 11, ground := Ground.phase }, { on := 12, ground := Ground.phase }], guard := none }) (v := ?_) rfl (by kernel_rfl) (by kernel_rfl) (by kernel_rfl) (fun _ _ _ h => h) (Or.inl ⟨by rfl, ?_⟩) (by assumption) ?_
        rotate_left
        · (intro w hSw; (try dsimp only at hSw); go_simp; try with_reducible rfl)
        simp only [Act.put, List.setIfInBounds_toArray, List.set_cons_zero, List.set_cons_succ]
        refine wpAnyH_done (by kernel_rfl) ?_ _
        clear hHeld hHeld1006 hHeld1015 hHeld1020
        have FL3 := hid trivial
        go_wp2_with (first
          | (refine wpList_load_box rfl 24 _ rfl (v4.heap.size) rfl _ _ CB.out _ Try.underlying24 Try.infoBd ?_)
          | (have hfl := FL3.out
             refine wpList_store_whole rfl 24 _ _ rfl rfl (v1.heap.size) rfl [.bool false, .int .i64 0, .slice q.a q.n q.c] rfl _ _ BB.out rfl Try.infoBd (by simp [Value.oneCell']) ?_
             intro v8 b g z
             have hsv8 : v7.heap.size ≤ v8.heap.size := by omega
             have HQ := hid (HQ.out.put g BB.out (by decide))
             have BB := hid (show BoxAt v8 (v1.heap.size) 24 #[.bool false, .int .i64 0, .slice q.a q.n q.c] from b)
             have CB := hid (CB.out.grown g (fun e => by have := Option.some.inj e; omega))
             have HB := hid (HB.out.trans (grown_below g (by omega) (by omega)))
             clear b g z hfl FL3)
          | fail)
        go_roundw
        case rel => exact ⟨i + 1, q, by omega, by go_num, BB.out, HQ.out, HB.out⟩
        case measure => simp [intOf]; omega
    · have hin : i = l.length := by omega
      subst hin
      have HU := hid (show OWt wr w.heap.size u.val l from by have := HU.out; rwa [List.take_length] at this)
      have hml := allP_length l 0 x
      have HML := hid hml
      clear hml
      have hq0 : ((l.length : Int) != (l.length : Int)) = false := by simp
      go_wp2_with (first
        | (refine wpList_load_box rfl 24 _ rfl (v1.heap.size) rfl _ _ BB.out _ Try.underlying24 Try.infoBd ?_)
        | fail)
      refine (bwrite_any false 0 x (s := u) HU.out.sees hl).mono ?_
      rintro e v4 ⟨q, rfl, hq, hb⟩
      have BB := hid (BB.out.belowAll hb)
      have HU := hid (HU.out.below hb)
      have HB := hid (HB.out.trans (hb.mono HB.out.size))
      have hsv4 : wr.heap.size ≤ v4.heap.size := by first | exact hb.size | omega
      have HX := hid hq
      obtain ⟨xa, xc, rfl, hx1, hx2, -⟩ := hq.sees.form
      rw [HML.out] at hx1 HX ⊢
      clear hq HU
      clear hb
      clear BB
      have FL3 := hid trivial
      have FL4 := hid trivial
      go_wp2_with (first
        | (have hfl := FL3.out
           refine wpList_new rfl 24 rfl _ Try.zeroBd ?_
           intro v5 b h z
           have CB := hid (show BoxAt v5 v4.heap.size 24 #[.bool false, .int .i64 0, .slice none 0 0] from b)
           have HX := hid (HX.out.below h)
           have HB := hid (HB.out.trans (h.mono HB.out.size))
           have hsv5 : v4.heap.size + 1 ≤ v5.heap.size := by first | exact h.size | omega
           clear b h z hfl FL3)
        | (have hfl := FL4.out
           refine wpList_store_whole rfl 24 _ _ rfl rfl (v4.heap.size) rfl [.bool true, .int .i64 x, .slice none 0 0] rfl _ _ CB.out rfl Try.infoBd (by simp [Value.oneCell']) ?_
           intro v6 b g z
           have hsv6 : v5.heap.size ≤ v6.heap.size := by omega
           have HX := hid (HX.out.put g CB.out (by decide))
           have CB := hid (show BoxAt v6 (v4.heap.size) 24 #[.bool true, .int .i64 x, .slice none 0 0] from b)
           have HB := hid (HB.out.trans (grown_below g (by omega) (by omega)))
           clear b g z hfl FL4
           refine Hid.out ?_)
        | fail)
      refine hid ?_
      unfold maxLen at hx2
      go_wp2_with fail
      go_loopw [13] (fun t wc => ∃ j : Nat, j ≤ l.length ∧ t = .int .i64 j ∧ Below v6.heap.size v6 wc) (fun t _ => l.length - (intOf t).toNat)
      case atStart => exact ⟨0, by omega, rfl, Below.refl _ _⟩
      case round =>
        obtain ⟨j, hj, rfl, hbel⟩ := hrel
        by_cases hlt : j < l.length
        · obtain ⟨bb, off, rfl, hbw, hcell⟩ := HC.out (by omega)
          obtain ⟨xa', xc', hxv, hxn, -, hxcell⟩ := HX.out.sees.form
          simp only [Value.slice.injEq] at hxv
          obtain ⟨rfl, -, rfl⟩ := hxv
          obtain ⟨xb, xo, rfl, hxw, hxc⟩ := hxcell (by rw [HML.out]; omega)
          have hjx : j < (allP l 0 x).length := by rw [HML.out]; exact hlt
          have hxg := allP_get l 0 x j hlt
          have c0 := ((HB.out.trans (hbel.mono HB.out.size)).cell (by exact hbw)).trans (hcell j hlt 0 (by decide))
          have e0 := (hbel.cell (by exact hxw)).trans (hxc j hjx 0 (by decide))
          have e1 := (hbel.cell (by exact hxw)).trans (hxc j hjx 1 (by decide))
          have e2 := (hbel.cell (by exact hxw)).trans (hxc j hjx 2 (by decide))
          rw [hxg] at e0 e1 e2
          obtain ⟨y, hy⟩ : ∃ y, l.getD j Wt.zero = y := ⟨_, rfl⟩
          rw [hy] at c0 e0 e1 e2
          clear hy hcell HC hxc hxcell hxg hjx hxn
          obtain ⟨y0, y1, y2⟩ := y
          simp only [Wt.cells, Wk.cells, wakeW, List.getD_cons_zero, List.getD_cons_succ, Nat.add_zero] at c0 e0 e1 e2
          have n0 : (y0 != y0) = false := by simp
          have n2 : (x != x) = false := by simp
          have HBE := hid hbel
          clear hbel
          go_wp2
          go_quiet (fail)
          go_wp2
          go_roundw
          case rel => exact ⟨j + 1, by omega, by go_num, below_drewB HBE.out nq⟩
          case measure => simp [intOf]; omega
        · have HB := hid (HB.out.trans (hbel.mono HB.out.size))
          have CB := hid (CB.out.belowAll hbel)
          have hsx := hbel.size
          have hvv : (x == x) = true := by simp
          clear hbel HX HC
          go_wp2_with (first
            | (refine wpList_load_box rfl 24 _ rfl (v4.heap.size) rfl _ _ CB.out _ Try.underlying24 Try.infoBd ?_)
            | fail)
          refine (bread_any true x (s := ⟨none, 0, 0⟩) ⟨0, 0, 0⟩ false (SeesWt.nil _) (by simp)).mono ?_
          rintro e v7 ⟨r1, rfl, hq, hb⟩
          have CB := hid (CB.out.belowAll hb)
          have HB := hid (HB.out.trans (hb.mono HB.out.size))
          have hsv7 : wr.heap.size ≤ v7.heap.size := by first | exact hb.size | omega
          rw [show readC true false = (0 : Int) from rfl, show readV true x = x from rfl]
          clear hq
          clear hb
          have FL5 := hid trivial
          have FL6 := hid trivial
          go_wp2_with (first
            | (have hfl := FL5.out
               refine wpList_new rfl 24 rfl _ Try.zeroBd ?_
               intro v8 b h z
               have DB := hid (show BoxAt v8 v7.heap.size 24 #[.bool false, .int .i64 0, .slice none 0 0] from b)
               have CB := hid (CB.out.belowAll h)
               have HB := hid (HB.out.trans (h.mono HB.out.size))
               have hsv8 : v7.heap.size + 1 ≤ v8.heap.size := by first | exact h.size | omega
               clear b h z hfl FL5)
            | (have hfl := FL6.out
               refine wpList_store_whole rfl 24 _ _ rfl rfl (v7.heap.size) rfl [.bool true, .int .i64 x, .slice r1.a r1.n r1.c] rfl _ _ DB.out rfl Try.infoBd (by simp [Value.oneCell']) ?_
               intro v9 b g z
               have hsv9 : v8.heap.size ≤ v9.heap.size := by omega
               have DB := hid (show BoxAt v9 (v7.heap.size) 24 #[.bool true, .int .i64 x, .slice r1.a r1.n r1.c] from b)
               have CB := hid (CB.out.grown g (fun e => by have := Option.some.inj e; omega))
               have HB := hid (HB.out.trans (grown_below g (by omega) (by omega)))
               clear b g z hfl FL6)
            | (refine wpList_load_box rfl 24 _ rfl (v4.heap.size) rfl _ _ CB.out _ Try.underlying24 Try.infoBd ?_)
            | fail)
          refine (bclear_any true x (s := ⟨none, 0, 0⟩) (SeesWt.nil _) (by simp)).mono ?_
          rintro e v10 ⟨r2, rfl, hq, hb⟩
          have CB := hid (CB.out.belowAll hb)
          have DB := hid (DB.out.belowAll hb)
          have HB := hid (HB.out.trans (hb.mono HB.out.size))
          have hsv10 : v9.heap.size ≤ v10.heap.size := by first | exact hb.size | omega
          have HR := hid hq
          clear hq
          clear hb
          go_wp2_with fail
          refine (bread_any false 0 (s := r2) ⟨0, 0, 0⟩ false HR.out.sees (by simp)).mono ?_
          rintro e v11 ⟨r3, rfl, hq, hb⟩
          have CB := hid (CB.out.belowAll hb)
          have DB := hid (DB.out.belowAll hb)
          have HB := hid (HB.out.trans (hb.mono HB.out.size))
          have hsv11 : v10.heap.size ≤ v11.heap.size := by first | exact hb.size | omega
          rw [show readC false false = (2 : Int) from rfl, show readV false 0 = (0 : Int) from rfl]
          clear hq HR
          clear hb
          have FL7 := hid trivial
          have FL8 := hid trivial
          go_wp2_with (first
            | (have hfl := FL7.out
               refine wpList_new rfl 24 rfl _ Try.zeroBd ?_
               intro v12 b h z
               have EB := hid (show BoxAt v12 v11.heap.size 24 #[.bool false, .int .i64 0, .slice none 0 0] from b)
               have CB := hid (CB.out.belowAll h)
               have DB := hid (DB.out.belowAll h)
               have HB := hid (HB.out.trans (h.mono HB.out.size))
               have hsv12 : v11.heap.size + 1 ≤ v12.heap.size := by first | exact h.size | omega
               clear b h z hfl FL7)
            | (have hfl := FL8.out
               refine wpList_store_whole rfl 24 _ _ rfl rfl (v11.heap.size) rfl [.bool false, .int .i64 0, .slice r3.a r3.n r3.c] rfl _ _ EB.out rfl Try.infoBd (by simp [Value.oneCell']) ?_
               intro v13 b g z
               have hsv13 : v12.heap.size ≤ v13.heap.size := by omega
               have EB := hid (show BoxAt v13 (v11.heap.size) 24 #[.bool false, .int .i64 0, .slice r3.a r3.n r3.c] from b)
               have CB := hid (CB.out.grown g (fun e => by have := Option.some.inj e; omega))
               have DB := hid (DB.out.grown g (fun e => by have := Option.some.inj e; omega))
               have HB := hid (HB.out.trans (grown_below g (by omega) (by omega)))
               clear b g z hfl FL8
               refine Hid.out ?_)
            | fail)
          refine hid ?_
          go_wp2
          go_ret
          exact ⟨rfl, HB.out⟩

end Go.Proofs.Ytpojoflhmbnfmaa
