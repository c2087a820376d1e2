/-
  BoardLast: the walk.
-/
import Derived.Test.YtpojoflhmbnfmaaBdAwake
import Derived.Test.YtpojoflhmbnfmaaBdOpen
import Derived.BigQuiet
namespace Go.Proofs.Ytpojoflhmbnfmaa
open Go.RowKit
set_option linter.unusedVariables false


/-- What was written last, of the first i. -/
def lastV (xs : List Int) (i : Nat) : Int := if i = 0 then 0 else xs.getD (i - 1) 0


set_option maxRecDepth 100000 in
set_option maxHeartbeats 3200000 in
theorem walk_BoardLast (w : World) (v : Value) (l : List Int) (hv : Sees w .i64 v l) (hf : ∀ n ∈ l, (Lit.int .i64 n).wf = true) (wi : Bool) (y : Wt) (f1 : y.fit) :
    Calls Try.prog 5 #[v, .bool wi, y.val] w fun e w' => e = .returned (.bool true) ∧ Below w.heap.size w w' := by
  clear f1
  clear hf
  have HV := hid hv
  obtain ⟨al, cl, rfl, hl1, hl2, hlc⟩ := hv.form
  unfold maxLen at hl2
  have HC := hid hlc
  clear hv hlc
  unfold Wt.val
  have HB := hid (Below.refl w.heap.size w)
  go_enter Try.func5, Try.ntmps5
  have FL1 := hid trivial
  go_wp2_with (first
    | (have hfl := FL1.out
       refine wpList_box rfl 26 (.tmp 2) rfl #[.int .i64 y.p, .int .i64 y.r, .int .i64 y.v] rfl ?_
       intro v1 b h z
       have WB := hid (show BoxAt v1 w.heap.size 26 #[.int .i64 y.p, .int .i64 y.r, .int .i64 y.v] from b)
       have HB := hid (HB.out.trans (h.mono HB.out.size))
       have hsv1 : w.heap.size + 1 ≤ v1.heap.size := by first | exact h.size | omega
       clear b h z hfl FL1)
    | fail)
  refine (bdawake_any _).mono ?_
  rintro e v2 ⟨rfl, hb⟩
  have WB := hid (WB.out.belowAll hb)
  have HB := hid (HB.out.trans (hb.mono HB.out.size))
  have hsv2 : v1.heap.size ≤ v2.heap.size := by first | exact hb.size | omega
  clear hb
  by_cases h60 : 60 < l.length
  · have h60' : (60 : Int) < l.length := by omega
    go_wp2
    go_ret
    exact ⟨rfl, HB.out⟩
  have h60' : ¬ (60 : Int) < l.length := by omega
  have hl : l.length ≤ 800000 := by omega
  have FL2 := hid trivial
  have FL3 := hid trivial
  go_wp2_with (first
    | (have hfl := FL2.out
       refine wpList_new rfl 24 rfl _ Try.zeroBd ?_
       intro v3 b h z
       have BB := hid (show BoxAt v3 v2.heap.size 24 #[.bool false, .int .i64 0, .slice none 0 0] from b)
       have WB := hid (WB.out.belowAll h)
       have HB := hid (HB.out.trans (h.mono HB.out.size))
       have hsv3 : v2.heap.size + 1 ≤ v3.heap.size := by first | exact h.size | omega
       clear b h z hfl FL2)
    | (have hfl := FL3.out
       refine wpList_store_whole rfl 24 _ _ rfl rfl (v2.heap.size) rfl [.bool false, .int .i64 0, .slice none 0 0] rfl _ _ BB.out rfl Try.infoBd (by simp [Value.oneCell']) ?_
       intro v4 b g z
       have hsv4 : v3.heap.size ≤ v4.heap.size := by omega
       have BB := hid (show BoxAt v4 (v2.heap.size) 24 #[.bool false, .int .i64 0, .slice none 0 0] from b)
       have WB := hid (WB.out.grown g (fun e => by have := Option.some.inj e; omega))
       have HB := hid (HB.out.trans (grown_below g (by omega) (by omega)))
       clear b g z hfl FL3
       refine Hid.out ?_)
    | fail)
  refine hid ?_
  go_wp2_with fail
  go_loopw [9] (fun t wc => ∃ (i : Nat), i ≤ l.length ∧ t = .int .i64 i ∧ BoxAt wc (v2.heap.size) 24 #[.bool (decide (0 < i)), .int .i64 (lastV l i), .slice none 0 0] ∧ BoxAt wc (w.heap.size) 26 #[.int .i64 y.p, .int .i64 y.r, .int .i64 y.v] ∧ Below w.heap.size w wc) (fun t _ => l.length - (intOf t).toNat)
  case atStart => exact ⟨0, by omega, rfl, BB.out, WB.out, HB.out⟩
  case round =>
    clear BB HB WB
    obtain ⟨i, hi, rfl, hbb, hwb, hbel⟩ := hrel
    have BB := hid hbb
    have WB := hid hwb
    have HB := hid hbel
    have hsr : v2.heap.size + 1 ≤ wr.heap.size := hbb.lt
    have hsw : w.heap.size ≤ wr.heap.size := hbel.size
    clear hbb hwb hbel
    by_cases hlt : i < l.length
    · obtain ⟨bb, off, rfl, hbw, hcell⟩ := HC.out (by omega)
      have c0 := hid (hcell i hlt)
      have HD := hid (show decide (0 < i + 1) = true by simp)
      have HL := hid (show lastV l (i + 1) = l.getD i 0 by unfold lastV; rw [if_neg (by omega)]; rfl)
      obtain ⟨ez, hz⟩ : ∃ ez, l.getD i 0 = ez := ⟨_, rfl⟩
      rw [hz] at c0 HL
      obtain ⟨D, hD⟩ : ∃ D, decide (0 < i) = D := ⟨_, rfl⟩
      obtain ⟨V, hV⟩ : ∃ V, lastV l i = V := ⟨_, rfl⟩
      rw [hD, hV] at BB
      clear hz hD hV hcell HC
      go_wp2_with fail
      have WB := hid (BoxAt.drew WB.out)
      have BB := hid (BoxAt.drew BB.out)
      have HB := hid HB.out.drew
      have hsv5 : wr.heap.size ≤ wr.drew.heap.size := Nat.le_refl _
      refine wp_region_held_drew (S := (fun w' : World => BoxAt w' (v2.heap.size) 24 #[.bool D, .int .i64 V, .slice none 0 0] ∧ w'.cell? ⟨bb, off + i, none⟩ = some (.int .i64 ez))) (by kernel_rfl) (⟨BB.out, (HB.out.cell (by exact hbw)).trans c0.out⟩) (fun hHeld => ?_)
      generalize wr.drew = v5 at *
      refine wpAnyH_take (i := 0) (oi := { dst := some 32, op := Op.load 24 (Operand.tmp 8), type := 24, pos := "more.go:16", after := #[], guard := none }) (v := ?_) rfl (by kernel_rfl) (by kernel_rfl) (by kernel_rfl) (fun _ _ _ h => h) (Or.inl ⟨by rfl, ?_⟩) (by assumption) ?_
      rotate_left
      · (intro W hSw; (try dsimp only at hSw); obtain ⟨x0, x1⟩ := hSw; have c0_0 : W.cell? ⟨v2.heap.size, 0, none⟩ = some (.bool D) := (BoxAt.cell x0 0).trans rfl; have c0_1 : W.cell? ⟨v2.heap.size, 1, none⟩ = some (.int .i64 V) := (BoxAt.cell x0 1).trans rfl; have c0_2 : W.cell? ⟨v2.heap.size, 2, none⟩ = some (.slice none 0 0) := (BoxAt.cell x0 2).trans rfl; clear x0; go_simp; try with_reducible rfl)
      simp only [Act.put, List.setIfInBounds_toArray, List.set_cons_zero, List.set_cons_succ]
      refine wpAnyH_take (i := 1) (oi := { dst := some 33, op := Op.move (Operand.tmp 0), type := 40, pos := "more.go:16", after := #[], guard := none }) (v := ?_) rfl (by kernel_rfl) (by kernel_rfl) (by kernel_rfl) (fun _ _ _ h => h) (Or.inl ⟨by rfl, ?_⟩) (by assumption) ?_
      rotate_left
      · (intro w hSw; (try dsimp only at hSw); go_simp; try with_reducible rfl)
      simp only [Act.put, List.setIfInBounds_toArray, List.set_cons_zero, List.set_cons_succ]
      refine wpAnyH_take (i := 2) (oi := { dst := some 34, op := Op.move (Operand.tmp 9), type := 3, pos := "more.go:16", after := #[], guard := none }) (v := ?_) rfl (by kernel_rfl) (by kernel_rfl) (by kernel_rfl) (fun _ _ _ h => h) (Or.inl ⟨by rfl, ?_⟩) (by assumption) ?_
      rotate_left
      · (intro w hSw; (try dsimp only at hSw); go_simp; try with_reducible rfl)
      simp only [Act.put, List.setIfInBounds_toArray, List.set_cons_zero, List.set_cons_succ]
      refine wpAnyH_take (i := 3) (oi := { dst := some 35, op := Op.indexAddr 40 (Operand.tmp 33) (Operand.tmp 34), type := 0, pos := "more.go:16", after := #[{ on := 1, ground := Ground.data }, { on := 2, ground := Ground.data }], guard := none }) (v := ?_) rfl (by kernel_rfl) (by kernel_rfl) (by kernel_rfl) (fun _ _ _ h => h) (Or.inl ⟨by rfl, ?_⟩) (by assumption) ?_
      rotate_left
      · (intro w hSw; (try dsimp only at hSw); go_simp; try with_reducible rfl)
      simp only [Act.put, List.setIfInBounds_toArray, List.set_cons_zero, List.set_cons_succ]
      refine wpAnyH_take (i := 4) (oi := { dst := some 36, op := Op.load 3 (Operand.tmp 35), type := 3, pos := "more.go:16", after := #[{ on := 3, ground := Ground.data }], guard := none }) (v := ?_) rfl (by kernel_rfl) (by kernel_rfl) (by kernel_rfl) (fun _ _ _ h => h) (Or.inl ⟨by rfl, ?_⟩) (by assumption) ?_
      rotate_left
      · (intro W hSw; (try dsimp only at hSw); obtain ⟨x0, x1⟩ := hSw; have c0_0 : W.cell? ⟨v2.heap.size, 0, none⟩ = some (.bool D) := (BoxAt.cell x0 0).trans rfl; have c0_1 : W.cell? ⟨v2.heap.size, 1, none⟩ = some (.int .i64 V) := (BoxAt.cell x0 1).trans rfl; have c0_2 : W.cell? ⟨v2.heap.size, 2, none⟩ = some (.slice none 0 0) := (BoxAt.cell x0 2).trans rfl; clear x0; go_simp; try with_reducible rfl)
      simp only [Act.put, List.setIfInBounds_toArray, List.set_cons_zero, List.set_cons_succ]
      refine wpAnyH_ready (rs := [5, 9]) (by kernel_rfl) (by simp) (AllReadyH.cons (o := { dst := some 37, op := Op.call { callee := Callee.value (Operand.func 9), args := #[Operand.tmp 32, Operand.tmp 36], argTypes := #[24, 3] }, type := 29, pos := "more.go:16", after := #[{ on := 0, ground := Ground.data }, { on := 4, ground := Ground.data }], guard := none }) rfl (fun K1006 hK1006 => ?b1006_5) (AllReadyH.cons (o := { dst := some 10, op := Op.alloc 24, type := 0, pos := "more.go:16", after := #[], guard := none }) rfl (fun K1006 hK1006 => ?b1006_9) AllReadyH.nil))
      case' b1006_5 =>
        go_simp
        refine (bwrite_any D V ez (s := ⟨none, 0, 0⟩) (SeesWt.nil _) (by simp)).mono ?_
        rintro e v6 ⟨q, rfl, hq, hb⟩
        have WB := hid (WB.out.belowAll hb)
        have BB := hid (BB.out.belowAll hb)
        have HB := hid (HB.out.trans (hb.mono HB.out.size))
        have hsv6 : v5.heap.size ≤ v6.heap.size := by first | exact hb.size | omega
        clear hq
        clear hb
        refine hK1006.out _ _ (⟨BB.out, (HB.out.cell (by exact hbw)).trans c0.out⟩) (fun hHeld1006 => ?_)
        clear hK1006 K1006
        try simp only [Act.put, List.setIfInBounds_toArray, List.set_cons_zero, List.set_cons_succ]
        refine wpAnyH_take (i := 6) (oi := { dst := some 31, op := Op.move (Operand.tmp 37), type := 29, pos := "more.go:16", after := #[{ on := 5, ground := Ground.data }], guard := none }) (v := ?_) rfl (by kernel_rfl) (by kernel_rfl) (by kernel_rfl) (fun _ _ _ h => h) (Or.inl ⟨by rfl, ?_⟩) (by assumption) ?_
        rotate_left
        · (intro w hSw; (try dsimp only at hSw); go_simp; try with_reducible rfl)
        simp only [Act.put, List.setIfInBounds_toArray, List.set_cons_zero, List.set_cons_succ]
        refine wpAnyH_take (i := 7) (oi := { dst := some 38, op := Op.extract (Operand.tmp 31) 0, type := 24, pos := "more.go:16", after := #[{ on := 6, ground := Ground.data }], guard := none }) (v := ?_) rfl (by kernel_rfl) (by kernel_rfl) (by kernel_rfl) (fun _ _ _ h => h) (Or.inl ⟨by rfl, ?_⟩) (by assumption) ?_
        rotate_left
        · (intro w hSw; (try dsimp only at hSw); go_simp; try with_reducible rfl)
        simp only [Act.put, List.setIfInBounds_toArray, List.set_cons_zero, List.set_cons_succ]
        refine wpAnyH_take (i := 8) (oi := { dst := some 39, op := Op.extract (Operand.tmp 31) 1, type := 28, pos := "more.go:16", after := #[{ on := 6, ground := Ground.data }, { on := 10, ground := Ground.gcOnly Departure.lateStores }], guard := none }) (v := ?_) rfl (by kernel_rfl) (by kernel_rfl) (by kernel_rfl) (fun _ _ _ h => h) (Or.inl ⟨by rfl, ?_⟩) (by assumption) ?_
        rotate_left
        · (intro w hSw; (try dsimp only at hSw); go_simp; try with_reducible rfl)
        simp only [Act.put, List.setIfInBounds_toArray, List.set_cons_zero, List.set_cons_succ]
        refine wpAnyH_ready (rs := [9]) (by kernel_rfl) (by simp) (AllReadyH.cons (o := { dst := some 10, op := Op.alloc 24, type := 0, pos := "more.go:16", after := #[], guard := none }) rfl (fun K1010 hK1010 => ?_) AllReadyH.nil)
        refine step_new rfl 24 rfl _ Try.zeroBd ?_
        intro v7 b h z
        have CB := hid (show BoxAt v7 v6.heap.size 24 #[.bool false, .int .i64 0, .slice none 0 0] from b)
        have WB := hid (WB.out.belowAll h)
        have BB := hid (BB.out.belowAll h)
        have HB := hid (HB.out.trans (h.mono HB.out.size))
        have hsv7 : v6.heap.size + 1 ≤ v7.heap.size := by first | exact h.size | omega
        clear b h z
        refine hK1010.out _ _ (⟨BB.out, (HB.out.cell (by exact hbw)).trans c0.out⟩) (fun hHeld1010 => ?_)
        clear hK1010 K1010
        try simp only [Act.put, List.setIfInBounds_toArray, List.set_cons_zero, List.set_cons_succ]
        refine wpAnyH_ready (rs := [10]) (by kernel_rfl) (by simp) (AllReadyH.cons (o := { dst := none, op := Op.store 24 (Operand.tmp 10) (Operand.tmp 38), type := 0, pos := "more.go:16", after := #[{ on := 9, ground := Ground.data }, { on := 7, ground := Ground.data }, { on := 5, ground := Ground.chain }, { on := 0, ground := Ground.phase }, { on := 1, ground := Ground.phase }, { on := 2, ground := Ground.phase }, { on := 3, ground := Ground.phase }, { on := 4, ground := Ground.phase }, { on := 5, ground := Ground.phase }, { on := 6, ground := Ground.phase }, { on := 7, ground := Ground.phase }, { on := 8, ground := Ground.textOnly Departure.lateStores }, { on := 9, ground := Ground.phase }], guard := none }) rfl (fun K1011 hK1011 => ?_) AllReadyH.nil)
        refine step_store_whole rfl 24 _ _ rfl (v6.heap.size) rfl [.bool true, .int .i64 ez, .slice none 0 0] rfl _ _ CB.out rfl Try.infoBd (by simp [Value.oneCell']) ?_
        intro v8 b g z
        have hsv8 : v7.heap.size ≤ v8.heap.size := by omega
        have CB := hid (show BoxAt v8 (v6.heap.size) 24 #[.bool true, .int .i64 ez, .slice none 0 0] from b)
        have WB := hid (WB.out.grown g (fun e => by have := Option.some.inj e; omega))
        have BB := hid (BB.out.grown g (fun e => by have := Option.some.inj e; omega))
        have HB := hid (HB.out.trans (grown_below g (by omega) (by omega)))
        clear b g z
        refine hK1011.out _ _ (⟨BB.out, (HB.out.cell (by exact hbw)).trans c0.out⟩) (fun hHeld1011 => ?_)
        clear hK1011 K1011
        try simp only [Act.put]
        refine wpAnyH_take (i := 11) (oi := { dst := some 11, op := Op.assign (Operand.tmp 39), type := 28, pos := "more.go:16", after := #[{ on := 8, ground := Ground.data }, { on := 10, ground := Ground.chain }, { on := 0, ground := Ground.phase }, { on := 1, ground := Ground.phase }, { on := 2, ground := Ground.phase }, { on := 3, ground := Ground.phase }, { on := 4, ground := Ground.phase }, { on := 5, ground := Ground.phase }, { on := 6, ground := Ground.phase }, { on := 7, ground := Ground.phase }, { on := 8, ground := Ground.phase }, { on := 9, ground := Ground.phase }, { on := 10, ground := Ground.phase }], guard := none }) (v := ?_) rfl (by kernel_rfl) (by kernel_rfl) (by kernel_rfl) (fun _ _ _ h => h) (Or.inl ⟨by rfl, ?_⟩) (by assumption) ?_
        rotate_left
        · (intro w hSw; (try dsimp only at hSw); go_simp; try with_reducible rfl)
        simp only [Act.put, List.setIfInBounds_toArray, List.set_cons_zero, List.set_cons_succ]
        refine wpAnyH_done (by kernel_rfl) ?_ _
        clear hHeld hHeld1006 hHeld1010 hHeld1011
        have FL4 := hid trivial
        go_wp2_with (first
          | (refine wpList_load_box rfl 24 _ rfl (v6.heap.size) rfl _ _ CB.out _ Try.underlying24 Try.infoBd ?_)
          | (have hfl := FL4.out
             refine wpList_store_whole rfl 24 _ _ rfl rfl (v2.heap.size) rfl [.bool true, .int .i64 ez, .slice none 0 0] rfl _ _ BB.out rfl Try.infoBd (by simp [Value.oneCell']) ?_
             intro v9 b g z
             have hsv9 : v8.heap.size ≤ v9.heap.size := by omega
             have BB := hid (show BoxAt v9 (v2.heap.size) 24 #[.bool true, .int .i64 ez, .slice none 0 0] from b)
             have WB := hid (WB.out.grown g (fun e => by have := Option.some.inj e; omega))
             have CB := hid (CB.out.grown g (fun e => by have := Option.some.inj e; omega))
             have HB := hid (HB.out.trans (grown_below g (by omega) (by omega)))
             clear b g z hfl FL4)
          | fail)
        go_roundw
        case rel => exact ⟨i + 1, by omega, by go_num, by rw [HD.out, HL.out]; exact BB.out, WB.out, HB.out⟩
        case measure => simp [intOf]; omega
      case' b1006_9 =>
        refine step_new rfl 24 rfl _ Try.zeroBd ?_
        intro v6 b h z
        have CB := hid (show BoxAt v6 v5.heap.size 24 #[.bool false, .int .i64 0, .slice none 0 0] from b)
        have WB := hid (WB.out.belowAll h)
        have BB := hid (BB.out.belowAll h)
        have HB := hid (HB.out.trans (h.mono HB.out.size))
        have hsv6 : v5.heap.size + 1 ≤ v6.heap.size := by first | exact h.size | omega
        clear b h z
        refine hK1006.out _ _ (⟨BB.out, (HB.out.cell (by exact hbw)).trans c0.out⟩) (fun hHeld1006 => ?_)
        clear hK1006 K1006
        try simp only [Act.put, List.setIfInBounds_toArray, List.set_cons_zero, List.set_cons_succ]
        refine wpAnyH_ready (rs := [5]) (by kernel_rfl) (by simp) (AllReadyH.cons (o := { dst := some 37, op := Op.call { callee := Callee.value (Operand.func 9), args := #[Operand.tmp 32, Operand.tmp 36], argTypes := #[24, 3] }, type := 29, pos := "more.go:16", after := #[{ on := 0, ground := Ground.data }, { on := 4, ground := Ground.data }], guard := none }) rfl (fun K1013 hK1013 => ?_) AllReadyH.nil)
        go_simp
        refine (bwrite_any D V ez (s := ⟨none, 0, 0⟩) (SeesWt.nil _) (by simp)).mono ?_
        rintro e v7 ⟨q, rfl, hq, hb⟩
        have WB := hid (WB.out.belowAll hb)
        have BB := hid (BB.out.belowAll hb)
        have CB := hid (CB.out.belowAll hb)
        have HB := hid (HB.out.trans (hb.mono HB.out.size))
        have hsv7 : v6.heap.size ≤ v7.heap.size := by first | exact hb.size | omega
        clear hq
        clear hb
        refine hK1013.out _ _ (⟨BB.out, (HB.out.cell (by exact hbw)).trans c0.out⟩) (fun hHeld1013 => ?_)
        clear hK1013 K1013
        try simp only [Act.put, List.setIfInBounds_toArray, List.set_cons_zero, List.set_cons_succ]
        refine wpAnyH_take (i := 6) (oi := { dst := some 31, op := Op.move (Operand.tmp 37), type := 29, pos := "more.go:16", after := #[{ on := 5, ground := Ground.data }], guard := none }) (v := ?_) rfl (by kernel_rfl) (by kernel_rfl) (by kernel_rfl) (fun _ _ _ h => h) (Or.inl ⟨by rfl, ?_⟩) (by assumption) ?_
        rotate_left
        · (intro w hSw; (try dsimp only at hSw); go_simp; try with_reducible rfl)
        simp only [Act.put, List.setIfInBounds_toArray, List.set_cons_zero, List.set_cons_succ]
        refine wpAnyH_take (i := 7) (oi := { dst := some 38, op := Op.extract (Operand.tmp 31) 0, type := 24, pos := "more.go:16", after := #[{ on := 6, ground := Ground.data }], guard := none }) (v := ?_) rfl (by kernel_rfl) (by kernel_rfl) (by kernel_rfl) (fun _ _ _ h => h) (Or.inl ⟨by rfl, ?_⟩) (by assumption) ?_
        rotate_left
        · (intro w hSw; (try dsimp only at hSw); go_simp; try with_reducible rfl)
        simp only [Act.put, List.setIfInBounds_toArray, List.set_cons_zero, List.set_cons_succ]
        refine wpAnyH_take (i := 8) (oi := { dst := some 39, op := Op.extract (Operand.tmp 31) 1, type := 28, pos := "more.go:16", after := #[{ on := 6, ground := Ground.data }, { on := 10, ground := Ground.gcOnly Departure.lateStores }], guard := none }) (v := ?_) rfl (by kernel_rfl) (by kernel_rfl) (by kernel_rfl) (fun _ _ _ h => h) (Or.inl ⟨by rfl, ?_⟩) (by assumption) ?_
        rotate_left
        · (intro w hSw; (try dsimp only at hSw); go_simp; try with_reducible rfl)
        simp only [Act.put, List.setIfInBounds_toArray, List.set_cons_zero, List.set_cons_succ]
        refine wpAnyH_ready (rs := [10]) (by kernel_rfl) (by simp) (AllReadyH.cons (o := { dst := none, op := Op.store 24 (Operand.tmp 10) (Operand.tmp 38), type := 0, pos := "more.go:16", after := #[{ on := 9, ground := Ground.data }, { on := 7, ground := Ground.data }, { on := 5, ground := Ground.chain }, { on := 0, ground := Ground.phase }, { on := 1, ground := Ground.phase }, { on := 2, ground := Ground.phase }, { on := 3, ground := Ground.phase }, { on := 4, ground := Ground.phase }, { on := 5, ground := Ground.phase }, { on := 6, ground := Ground.phase }, { on := 7, ground := Ground.phase }, { on := 8, ground := Ground.textOnly Departure.lateStores }, { on := 9, ground := Ground.phase }], guard := none }) rfl (fun K1017 hK1017 => ?_) AllReadyH.nil)
        refine step_store_whole rfl 24 _ _ rfl (v5.heap.size) rfl [.bool true, .int .i64 ez, .slice none 0 0] rfl _ _ CB.out rfl Try.infoBd (by simp [Value.oneCell']) ?_
        intro v8 b g z
        have hsv8 : v7.heap.size ≤ v8.heap.size := by omega
        have CB := hid (show BoxAt v8 (v5.heap.size) 24 #[.bool true, .int .i64 ez, .slice none 0 0] from b)
        have WB := hid (WB.out.grown g (fun e => by have := Option.some.inj e; omega))
        have BB := hid (BB.out.grown g (fun e => by have := Option.some.inj e; omega))
        have HB := hid (HB.out.trans (grown_below g (by omega) (by omega)))
        clear b g z
        refine hK1017.out _ _ (⟨BB.out, (HB.out.cell (by exact hbw)).trans c0.out⟩) (fun hHeld1017 => ?_)
        clear hK1017 K1017
        try simp only [Act.put]
        refine wpAnyH_take (i := 11) (oi := { dst := some 11, op := Op.assign (Operand.tmp 39), type := 28, pos := "more.go:16", after := #[{ on := 8, ground := Ground.data }, { on := 10, ground := Ground.chain }, { on := 0, ground := Ground.phase }, { on := 1, ground := Ground.phase }, { on := 2, ground := Ground.phase }, { on := 3, ground := Ground.phase }, { on := 4, ground := Ground.phase }, { on := 5, ground := Ground.phase }, { on := 6, ground := Ground.phase }, { on := 7, ground := Ground.phase }, { on := 8, ground := Ground.phase }, { on := 9, ground := Ground.phase }, { on := 10, ground := Ground.phase }], guard := none }) (v := ?_) rfl (by kernel_rfl) (by kernel_rfl) (by kernel_rfl) (fun _ _ _ h => h) (Or.inl ⟨by rfl, ?_⟩) (by assumption) ?_
        rotate_left
        · (intro w hSw; (try dsimp only at hSw); go_simp; try with_reducible rfl)
        simp only [Act.put, List.setIfInBounds_toArray, List.set_cons_zero, List.set_cons_succ]
        refine wpAnyH_done (by kernel_rfl) ?_ _
        clear hHeld hHeld1006 hHeld1013 hHeld1017
        have FL4 := hid trivial
        go_wp2_with (first
          | (refine wpList_load_box rfl 24 _ rfl (v5.heap.size) rfl _ _ CB.out _ Try.underlying24 Try.infoBd ?_)
          | (have hfl := FL4.out
             refine wpList_store_whole rfl 24 _ _ rfl rfl (v2.heap.size) rfl [.bool true, .int .i64 ez, .slice none 0 0] rfl _ _ BB.out rfl Try.infoBd (by simp [Value.oneCell']) ?_
             intro v9 b g z
             have hsv9 : v8.heap.size ≤ v9.heap.size := by omega
             have BB := hid (show BoxAt v9 (v2.heap.size) 24 #[.bool true, .int .i64 ez, .slice none 0 0] from b)
             have WB := hid (WB.out.grown g (fun e => by have := Option.some.inj e; omega))
             have CB := hid (CB.out.grown g (fun e => by have := Option.some.inj e; omega))
             have HB := hid (HB.out.trans (grown_below g (by omega) (by omega)))
             clear b g z hfl FL4)
          | fail)
        go_roundw
        case rel => exact ⟨i + 1, by omega, by go_num, by rw [HD.out, HL.out]; exact BB.out, WB.out, HB.out⟩
        case measure => simp [intOf]; omega
    · have hin : i = l.length := by omega
      subst hin
      rcases wi with _ | _
      rotate_left
      · obtain ⟨D, hD⟩ : ∃ D, decide (0 < l.length) = D := ⟨_, rfl⟩
        obtain ⟨V, hV⟩ : ∃ V, lastV l l.length = V := ⟨_, rfl⟩
        rw [hD, hV] at BB
        clear hD hV HC
        go_wp2_with (first
          | (refine wpList_load_box rfl 24 _ rfl (v2.heap.size) rfl _ _ BB.out _ Try.underlying24 Try.infoBd ?_)
          | fail)
        refine (bclear_any D V (s := ⟨none, 0, 0⟩) (SeesWt.nil _) (by simp)).mono ?_
        rintro e v5 ⟨u, rfl, hu, hb⟩
        have WB := hid (WB.out.belowAll hb)
        have BB := hid (BB.out.belowAll hb)
        have HB := hid (HB.out.trans (hb.mono HB.out.size))
        have hsv5 : wr.heap.size ≤ v5.heap.size := by first | exact hb.size | omega
        have HU := hid hu
        clear hu
        clear hb
        have FL4 := hid trivial
        go_wp2_with (first
          | (have hfl := FL4.out
             refine wpList_store_whole rfl 24 _ _ rfl rfl (v2.heap.size) rfl [.bool false, .int .i64 0, .slice u.a u.n u.c] rfl _ _ BB.out rfl Try.infoBd (by simp [Value.oneCell']) ?_
             intro v6 b g z
             have hsv6 : v5.heap.size ≤ v6.heap.size := by omega
             have HU := hid (HU.out.put g BB.out (by decide))
             have BB := hid (show BoxAt v6 (v2.heap.size) 24 #[.bool false, .int .i64 0, .slice u.a u.n u.c] from b)
             have WB := hid (WB.out.grown g (fun e => by have := Option.some.inj e; omega))
             have HB := hid (HB.out.trans (grown_below g (by omega) (by omega)))
             clear b g z hfl FL4)
          | (refine wpList_load_box rfl 24 _ rfl (v2.heap.size) rfl _ _ BB.out _ Try.underlying24 Try.infoBd ?_)
          | (refine wpList_load_box rfl 26 _ rfl (w.heap.size) rfl _ _ WB.out _ Try.underlying26 Try.infoWt ?_)
          | fail)
        refine (bread_any false 0 (s := u) y false HU.out.sees (by simp)).mono ?_
        rintro e v7 ⟨q, rfl, hq, hb⟩
        have WB := hid (WB.out.belowAll hb)
        have BB := hid (BB.out.belowAll hb)
        have HU := hid (HU.out.below hb)
        have HB := hid (HB.out.trans (hb.mono HB.out.size))
        have hsv7 : v6.heap.size ≤ v7.heap.size := by first | exact hb.size | omega
        have hqn : q.n = 0 := hq.n
        have HQN := hid hqn
        rw [show readC false false = (2 : Int) from rfl, show readV false 0 = (0 : Int) from rfl]
        clear hq hqn HU
        clear hb
        have FL5 := hid trivial
        have FL6 := hid trivial
        go_wp2_with (first
          | (have hfl := FL5.out
             refine wpList_new rfl 24 rfl _ Try.zeroBd ?_
             intro v8 b h z
             have CB := hid (show BoxAt v8 v7.heap.size 24 #[.bool false, .int .i64 0, .slice none 0 0] from b)
             have WB := hid (WB.out.belowAll h)
             have BB := hid (BB.out.belowAll h)
             have HB := hid (HB.out.trans (h.mono HB.out.size))
             have hsv8 : v7.heap.size + 1 ≤ v8.heap.size := by first | exact h.size | omega
             clear b h z hfl FL5)
          | (have hfl := FL6.out
             refine wpList_store_whole rfl 24 _ _ rfl rfl (v7.heap.size) rfl [.bool false, .int .i64 0, .slice q.a q.n q.c] rfl _ _ CB.out rfl Try.infoBd (by simp [Value.oneCell']) ?_
             intro v9 b g z
             have hsv9 : v8.heap.size ≤ v9.heap.size := by omega
             have CB := hid (show BoxAt v9 (v7.heap.size) 24 #[.bool false, .int .i64 0, .slice q.a q.n q.c] from b)
             have WB := hid (WB.out.grown g (fun e => by have := Option.some.inj e; omega))
             have BB := hid (BB.out.grown g (fun e => by have := Option.some.inj e; omega))
             have HB := hid (HB.out.trans (grown_below g (by omega) (by omega)))
             clear b g z hfl FL6
             refine Hid.out ?_)
          | fail)
        refine hid ?_
        have kCB2 : v9.cell? ⟨v7.heap.size, 2, none⟩ = some (.slice q.a q.n q.c) := (BoxAt.cell CB.out 2).trans rfl
        have hqn := HQN.out
        go_wp2
        go_ret
        exact ⟨rfl, HB.out⟩
      by_cases h0 : l.length = 0
      · have BB := hid (show BoxAt wr (v2.heap.size) 24 #[.bool false, .int .i64 0, .slice none 0 0] by have := BB.out; rw [h0] at this; exact this)
        have HZ := hid h0
        clear h0 hlt
        go_wp2_with (first
          | (refine wpList_load_box rfl 24 _ rfl (v2.heap.size) rfl _ _ BB.out _ Try.underlying24 Try.infoBd ?_)
          | (refine wpList_load_box rfl 26 _ rfl (w.heap.size) rfl _ _ WB.out _ Try.underlying26 Try.infoWt ?_)
          | fail)
        refine (bread_any false 0 (s := ⟨none, 0, 0⟩) y false (SeesWt.nil _) (by simp)).mono ?_
        rintro e v5 ⟨q, rfl, hq, hb⟩
        have WB := hid (WB.out.belowAll hb)
        have BB := hid (BB.out.belowAll hb)
        have HB := hid (HB.out.trans (hb.mono HB.out.size))
        have hsv5 : wr.heap.size ≤ v5.heap.size := by first | exact hb.size | omega
        have hqn : q.n = 0 := hq.n
        have HQN := hid hqn
        rw [show readC false false = (2 : Int) from rfl, show readV false 0 = (0 : Int) from rfl]
        clear hq hqn
        clear hb
        have FL4 := hid trivial
        have FL5 := hid trivial
        go_wp2_with (first
          | (have hfl := FL4.out
             refine wpList_new rfl 24 rfl _ Try.zeroBd ?_
             intro v6 b h z
             have CB := hid (show BoxAt v6 v5.heap.size 24 #[.bool false, .int .i64 0, .slice none 0 0] from b)
             have WB := hid (WB.out.belowAll h)
             have BB := hid (BB.out.belowAll h)
             have HB := hid (HB.out.trans (h.mono HB.out.size))
             have hsv6 : v5.heap.size + 1 ≤ v6.heap.size := by first | exact h.size | omega
             clear b h z hfl FL4)
          | (have hfl := FL5.out
             refine wpList_store_whole rfl 24 _ _ rfl rfl (v5.heap.size) rfl [.bool false, .int .i64 0, .slice q.a q.n q.c] rfl _ _ CB.out rfl Try.infoBd (by simp [Value.oneCell']) ?_
             intro v7 b g z
             have hsv7 : v6.heap.size ≤ v7.heap.size := by omega
             have CB := hid (show BoxAt v7 (v5.heap.size) 24 #[.bool false, .int .i64 0, .slice q.a q.n q.c] from b)
             have WB := hid (WB.out.grown g (fun e => by have := Option.some.inj e; omega))
             have BB := hid (BB.out.grown g (fun e => by have := Option.some.inj e; omega))
             have HB := hid (HB.out.trans (grown_below g (by omega) (by omega)))
             clear b g z hfl FL5
             refine Hid.out ?_)
          | fail)
        refine hid ?_
        have kCB2 : v7.cell? ⟨v5.heap.size, 2, none⟩ = some (.slice q.a q.n q.c) := (BoxAt.cell CB.out 2).trans rfl
        have hqn := HQN.out
        have h0 : ((l.length : Int) == 0) = true := by rw [HZ.out]; rfl
        go_wp2
        go_ret
        exact ⟨rfl, HB.out⟩
      · obtain ⟨bb, off, rfl, hbw, hcell⟩ := HC.out (by omega)
        have hlast : lastV l l.length = l.getD (l.length - 1) 0 := by unfold lastV; rw [if_neg h0]
        have hcx := hcell (l.length - 1) (by omega)
        obtain ⟨ez, hz⟩ : ∃ ez, l.getD (l.length - 1) 0 = ez := ⟨_, rfl⟩
        rw [hz] at hcx hlast
        have BB := hid (show BoxAt wr (v2.heap.size) 24 #[.bool true, .int .i64 ez, .slice none 0 0] by have := BB.out; rwa [hlast, decide_eq_true (show 0 < l.length by omega)] at this)
        have CX := hid hcx
        clear hcx hlast hz hcell HC
        go_wp2_with (first
          | (refine wpList_load_box rfl 24 _ rfl (v2.heap.size) rfl _ _ BB.out _ Try.underlying24 Try.infoBd ?_)
          | (refine wpList_load_box rfl 26 _ rfl (w.heap.size) rfl _ _ WB.out _ Try.underlying26 Try.infoWt ?_)
          | fail)
        refine (bread_any true ez (s := ⟨none, 0, 0⟩) y false (SeesWt.nil _) (by simp)).mono ?_
        rintro e v5 ⟨q, rfl, hq, hb⟩
        have WB := hid (WB.out.belowAll hb)
        have BB := hid (BB.out.belowAll hb)
        have HB := hid (HB.out.trans (hb.mono HB.out.size))
        have hsv5 : wr.heap.size ≤ v5.heap.size := by first | exact hb.size | omega
        have hqn : q.n = 0 := hq.n
        have HQN := hid hqn
        rw [show readC true false = (0 : Int) from rfl, show readV true ez = ez from rfl]
        clear hq hqn
        clear hb
        have FL4 := hid trivial
        have FL5 := hid trivial
        go_wp2_with (first
          | (have hfl := FL4.out
             refine wpList_new rfl 24 rfl _ Try.zeroBd ?_
             intro v6 b h z
             have CB := hid (show BoxAt v6 v5.heap.size 24 #[.bool false, .int .i64 0, .slice none 0 0] from b)
             have WB := hid (WB.out.belowAll h)
             have BB := hid (BB.out.belowAll h)
             have HB := hid (HB.out.trans (h.mono HB.out.size))
             have hsv6 : v5.heap.size + 1 ≤ v6.heap.size := by first | exact h.size | omega
             clear b h z hfl FL4)
          | (have hfl := FL5.out
             refine wpList_store_whole rfl 24 _ _ rfl rfl (v5.heap.size) rfl [.bool true, .int .i64 ez, .slice q.a q.n q.c] rfl _ _ CB.out rfl Try.infoBd (by simp [Value.oneCell']) ?_
             intro v7 b g z
             have hsv7 : v6.heap.size ≤ v7.heap.size := by omega
             have CB := hid (show BoxAt v7 (v5.heap.size) 24 #[.bool true, .int .i64 ez, .slice q.a q.n q.c] from b)
             have WB := hid (WB.out.grown g (fun e => by have := Option.some.inj e; omega))
             have BB := hid (BB.out.grown g (fun e => by have := Option.some.inj e; omega))
             have HB := hid (HB.out.trans (grown_below g (by omega) (by omega)))
             clear b g z hfl FL5
             refine Hid.out ?_)
          | fail)
        refine hid ?_
        have kCB2 : v7.cell? ⟨v5.heap.size, 2, none⟩ = some (.slice q.a q.n q.c) := (BoxAt.cell CB.out 2).trans rfl
        have hqn := HQN.out
        have cx := (HB.out.cell (by exact hbw)).trans CX.out
        obtain ⟨K, hK⟩ : ∃ K, l.length - 1 = K := ⟨_, rfl⟩
        rw [hK] at cx
        have hsub : (l.length : Int) - 1 = (K : Int) := by omega
        have hwr : wrap64 (K : Int) = (K : Int) := by unfold wrap64; omega
        have hz0 : ((l.length : Int) == 0) = false := beq_eq_false_iff_ne.2 (fun h => h0 (by exact_mod_cast h))
        have hzz : (ez == ez) = true := by simp
        have hKl : K < l.length := by omega
        clear hK h0 hlt HV
        generalize l.length = N at *
        go_wp2
        go_ret
        exact ⟨rfl, HB.out⟩

end Go.Proofs.Ytpojoflhmbnfmaa
