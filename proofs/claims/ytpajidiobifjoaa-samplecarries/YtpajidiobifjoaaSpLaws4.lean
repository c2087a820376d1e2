/-
  SampleCarries: the walk.
-/
import Derived.Test.YtpajidiobifjoaaSpAwake
import Derived.Test.YtpajidiobifjoaaSpOpen
namespace Go.Proofs.Ytpajidiobifjoaa
open Go.RowKit
set_option linter.unusedVariables false


set_option maxRecDepth 100000 in
set_option maxHeartbeats 3200000 in
theorem walk_SampleCarries (w : World) (x0 : Sp) (f0 : x0.fit) (x1 : Sp) (f1 : x1.fit) (x2 : Sp) (f2 : x2.fit) :
    Calls Try.prog 7 #[x0.val, x1.val, x2.val] w fun e w' => e = .returned (.bool true) ∧ Below w.heap.size w w' := by
  clear f0 f1 f2
  obtain ⟨k, v, a⟩ := x0
  obtain ⟨yk, yv, ya⟩ := x1
  obtain ⟨uk, uv, ua⟩ := x2
  unfold Sp.val
  have ev : (v == v) = true := by simp
  have ea : (a == a) = true := by simp
  have eyv : (yv == yv) = true := by simp
  have eya : (ya == ya) = true := by simp
  have HB := hid (Below.refl w.heap.size w)
  go_enter Try.func7, Try.ntmps7
  rcases k with _ | _
  · rcases yk with _ | _
    · have FL1 := hid trivial
      have FL2 := hid trivial
      have FL3 := hid trivial
      go_wp2_with (first
        | (have hfl := FL1.out
           refine wpList_box rfl 23 (.tmp 0) rfl #[.bool false, .int .i64 (v), .int .i64 (a)] rfl ?_
           intro v1 b h z
           have PB := hid (show BoxAt v1 w.heap.size 23 #[.bool false, .int .i64 (v), .int .i64 (a)] from b)
           have HB := hid (HB.out.trans (h.mono HB.out.size))
           have hsv1 : w.heap.size + 1 ≤ v1.heap.size := by first | exact h.size | omega
           clear b h z hfl FL1)
        | (have hfl := FL2.out
           refine wpList_box rfl 23 (.tmp 1) rfl #[.bool false, .int .i64 (yv), .int .i64 (ya)] rfl ?_
           intro v2 b h z
           have TB := hid (show BoxAt v2 v1.heap.size 23 #[.bool false, .int .i64 (yv), .int .i64 (ya)] from b)
           have PB := hid (PB.out.belowAll h)
           have HB := hid (HB.out.trans (h.mono HB.out.size))
           have hsv2 : v1.heap.size + 1 ≤ v2.heap.size := by first | exact h.size | omega
           clear b h z hfl FL2)
        | (have hfl := FL3.out
           refine wpList_box rfl 23 (.tmp 2) rfl #[.bool uk, .int .i64 (uv), .int .i64 (ua)] rfl ?_
           intro v3 b h z
           have UB := hid (show BoxAt v3 v2.heap.size 23 #[.bool uk, .int .i64 (uv), .int .i64 (ua)] from b)
           have PB := hid (PB.out.belowAll h)
           have TB := hid (TB.out.belowAll h)
           have HB := hid (HB.out.trans (h.mono HB.out.size))
           have hsv3 : v2.heap.size + 1 ≤ v3.heap.size := by first | exact h.size | omega
           clear b h z hfl FL3)
        | fail)
      refine (spawake_any _).mono ?_
      rintro e v4 ⟨rfl, hb⟩
      have PB := hid (PB.out.belowAll hb)
      have TB := hid (TB.out.belowAll hb)
      have UB := hid (UB.out.belowAll hb)
      have HB := hid (HB.out.trans (hb.mono HB.out.size))
      have hsv4 : v3.heap.size ≤ v4.heap.size := by first | exact hb.size | omega
      clear hb
      go_wp2_with (first
        | (refine wpList_load_box rfl 23 _ rfl (w.heap.size) rfl _ _ PB.out _ Try.underlying23 Try.infoSp ?_)
        | (refine wpList_load_box rfl 23 _ rfl (v1.heap.size) rfl _ _ TB.out _ Try.underlying23 Try.infoSp ?_)
        | fail)
      refine (carry_no v a false yv ya _).mono ?_
      rintro e v5 ⟨rfl, hb⟩
      have PB := hid (PB.out.belowAll hb)
      have TB := hid (TB.out.belowAll hb)
      have UB := hid (UB.out.belowAll hb)
      have HB := hid (HB.out.trans (hb.mono HB.out.size))
      have hsv5 : v4.heap.size ≤ v5.heap.size := by first | exact hb.size | omega
      clear hb
      have FL4 := hid trivial
      have FL5 := hid trivial
      go_wp2_with (first
        | (have hfl := FL4.out
           refine wpList_new rfl 23 rfl _ Try.zeroSp ?_
           intro v6 b h z
           have XB := hid (show BoxAt v6 v5.heap.size 23 #[.bool false, .int .i64 0, .int .i64 0] from b)
           have PB := hid (PB.out.belowAll h)
           have TB := hid (TB.out.belowAll h)
           have UB := hid (UB.out.belowAll h)
           have HB := hid (HB.out.trans (h.mono HB.out.size))
           have hsv6 : v5.heap.size + 1 ≤ v6.heap.size := by first | exact h.size | omega
           clear b h z hfl FL4)
        | (have hfl := FL5.out
           refine wpList_store_whole rfl 23 _ _ rfl rfl (v5.heap.size) rfl [.bool false, .int .i64 (yv), .int .i64 (ya)] rfl _ _ XB.out rfl Try.infoSp (by simp [Value.oneCell']) ?_
           intro v7 b g z
           have hsv7 : v6.heap.size ≤ v7.heap.size := by omega
           have XB := hid (show BoxAt v7 (v5.heap.size) 23 #[.bool false, .int .i64 (yv), .int .i64 (ya)] from b)
           have PB := hid (PB.out.grown g (fun e => by have := Option.some.inj e; omega))
           have TB := hid (TB.out.grown g (fun e => by have := Option.some.inj e; omega))
           have UB := hid (UB.out.grown g (fun e => by have := Option.some.inj e; omega))
           have HB := hid (HB.out.trans (grown_below g (by omega) (by omega)))
           clear b g z hfl FL5)
        | (refine wpList_load_box rfl 23 _ rfl (v5.heap.size) rfl _ _ XB.out _ Try.underlying23 Try.infoSp ?_)
        | (refine wpList_load_box rfl 23 _ rfl (v2.heap.size) rfl _ _ UB.out _ Try.underlying23 Try.infoSp ?_)
        | fail)
      refine (carry_no yv ya uk uv ua _).mono ?_
      rintro e v8 ⟨rfl, hb⟩
      have PB := hid (PB.out.belowAll hb)
      have TB := hid (TB.out.belowAll hb)
      have UB := hid (UB.out.belowAll hb)
      have XB := hid (XB.out.belowAll hb)
      have HB := hid (HB.out.trans (hb.mono HB.out.size))
      have hsv8 : v7.heap.size ≤ v8.heap.size := by first | exact hb.size | omega
      clear hb
      have FL6 := hid trivial
      have FL7 := hid trivial
      go_wp2_with (first
        | (have hfl := FL6.out
           refine wpList_new rfl 23 rfl _ Try.zeroSp ?_
           intro v9 b h z
           have YB := hid (show BoxAt v9 v8.heap.size 23 #[.bool false, .int .i64 0, .int .i64 0] from b)
           have PB := hid (PB.out.belowAll h)
           have TB := hid (TB.out.belowAll h)
           have UB := hid (UB.out.belowAll h)
           have XB := hid (XB.out.belowAll h)
           have HB := hid (HB.out.trans (h.mono HB.out.size))
           have hsv9 : v8.heap.size + 1 ≤ v9.heap.size := by first | exact h.size | omega
           clear b h z hfl FL6)
        | (have hfl := FL7.out
           refine wpList_store_whole rfl 23 _ _ rfl rfl (v8.heap.size) rfl [.bool uk, .int .i64 (uv), .int .i64 (ua)] rfl _ _ YB.out rfl Try.infoSp (by simp [Value.oneCell']) ?_
           intro v10 b g z
           have hsv10 : v9.heap.size ≤ v10.heap.size := by omega
           have YB := hid (show BoxAt v10 (v8.heap.size) 23 #[.bool uk, .int .i64 (uv), .int .i64 (ua)] from b)
           have PB := hid (PB.out.grown g (fun e => by have := Option.some.inj e; omega))
           have TB := hid (TB.out.grown g (fun e => by have := Option.some.inj e; omega))
           have UB := hid (UB.out.grown g (fun e => by have := Option.some.inj e; omega))
           have XB := hid (XB.out.grown g (fun e => by have := Option.some.inj e; omega))
           have HB := hid (HB.out.trans (grown_below g (by omega) (by omega)))
           clear b g z hfl FL7
           refine Hid.out ?_)
        | fail)
      refine hid ?_
      go_wp2_with fail
      have PB := hid (BoxAt.drew PB.out)
      have TB := hid (BoxAt.drew TB.out)
      have UB := hid (BoxAt.drew UB.out)
      have XB := hid (BoxAt.drew XB.out)
      have YB := hid (BoxAt.drew YB.out)
      have HB := hid (HB.out.drew)
      have hsv11 : v10.heap.size ≤ v10.drew.heap.size := Nat.le_refl _
      refine wp_region_held_drew (S := (fun w' : World => BoxAt w' (w.heap.size) 23 #[.bool false, .int .i64 (v), .int .i64 (a)] ∧ BoxAt w' (v1.heap.size) 23 #[.bool false, .int .i64 (yv), .int .i64 (ya)] ∧ BoxAt w' (v5.heap.size) 23 #[.bool false, .int .i64 (yv), .int .i64 (ya)] ∧ BoxAt w' (v8.heap.size) 23 #[.bool uk, .int .i64 (uv), .int .i64 (ua)])) (by kernel_rfl) (⟨PB.out, TB.out, XB.out, YB.out⟩) (fun hHeld => ?_)
      generalize v10.drew = v11 at *
      refine wpAnyH_take (i := 0) (oi := { dst := some 17, op := Op.move (Operand.tmp 7), type := 4, pos := "more.go:36", after := _, guard := none }) (v := ?_) rfl (by kernel_rfl) (by kernel_rfl) (by kernel_rfl) (fun _ _ _ h => h) (Or.inl ⟨by rfl, ?_⟩) (by assumption) ?_
      rotate_left
      · (intro w hSw; (try dsimp only at hSw); go_simp; try with_reducible rfl)
      simp only [Act.put, List.setIfInBounds_toArray, List.set_cons_zero, List.set_cons_succ]
      refine wpAnyH_take (i := 1) (oi := { dst := some 18, op := Op.move (Operand.tmp 17), type := 4, pos := "more.go:36", after := _, guard := none }) (v := ?_) rfl (by kernel_rfl) (by kernel_rfl) (by kernel_rfl) (fun _ _ _ h => h) (Or.inl ⟨by rfl, ?_⟩) (by assumption) ?_
      rotate_left
      · (intro w hSw; (try dsimp only at hSw); go_simp; try with_reducible rfl)
      simp only [Act.put, List.setIfInBounds_toArray, List.set_cons_zero, List.set_cons_succ]
      refine wpAnyH_take (i := 2) (oi := { dst := some 19, op := Op.fieldAddr 23 (Operand.tmp 3) 0, type := 0, pos := "more.go:36", after := _, guard := some (1, true) }) (v := ?_) rfl (by kernel_rfl) (by kernel_rfl) (by kernel_rfl) (fun _ _ _ h => h) (Or.inl ⟨by rfl, ?_⟩) (by assumption) ?_
      rotate_left
      · (intro w hSw; (try dsimp only at hSw); go_simp; try with_reducible rfl)
      simp only [Act.put, List.setIfInBounds_toArray, List.set_cons_zero, List.set_cons_succ]
      refine wpAnyH_take (i := 3) (oi := { dst := some 20, op := Op.load 4 (Operand.tmp 19), type := 4, pos := "more.go:36", after := _, guard := some (1, true) }) (v := ?_) rfl (by kernel_rfl) (by kernel_rfl) (by kernel_rfl) (fun _ _ _ h => h) (Or.inl ⟨by rfl, ?_⟩) (by assumption) ?_
      rotate_left
      · (intro W hSw; (try dsimp only at hSw); obtain ⟨hs0S, hs1S, hs2S, hs3S⟩ := hSw; have c0_0 : W.cell? ⟨w.heap.size, 0, none⟩ = some (.bool false) := (BoxAt.cell hs0S 0).trans rfl; have c0_1 : W.cell? ⟨w.heap.size, 1, none⟩ = some (.int .i64 (v)) := (BoxAt.cell hs0S 1).trans rfl; have c0_2 : W.cell? ⟨w.heap.size, 2, none⟩ = some (.int .i64 (a)) := (BoxAt.cell hs0S 2).trans rfl; have c1_0 : W.cell? ⟨v1.heap.size, 0, none⟩ = some (.bool false) := (BoxAt.cell hs1S 0).trans rfl; have c1_1 : W.cell? ⟨v1.heap.size, 1, none⟩ = some (.int .i64 (yv)) := (BoxAt.cell hs1S 1).trans rfl; have c1_2 : W.cell? ⟨v1.heap.size, 2, none⟩ = some (.int .i64 (ya)) := (BoxAt.cell hs1S 2).trans rfl; have c2_0 : W.cell? ⟨v5.heap.size, 0, none⟩ = some (.bool false) := (BoxAt.cell hs2S 0).trans rfl; have c2_1 : W.cell? ⟨v5.heap.size, 1, none⟩ = some (.int .i64 (yv)) := (BoxAt.cell hs2S 1).trans rfl; have c2_2 : W.cell? ⟨v5.heap.size, 2, none⟩ = some (.int .i64 (ya)) := (BoxAt.cell hs2S 2).trans rfl; have c3_0 : W.cell? ⟨v8.heap.size, 0, none⟩ = some (.bool uk) := (BoxAt.cell hs3S 0).trans rfl; have c3_1 : W.cell? ⟨v8.heap.size, 1, none⟩ = some (.int .i64 (uv)) := (BoxAt.cell hs3S 1).trans rfl; have c3_2 : W.cell? ⟨v8.heap.size, 2, none⟩ = some (.int .i64 (ua)) := (BoxAt.cell hs3S 2).trans rfl; clear hs0S hs1S hs2S hs3S; go_simp; try with_reducible rfl)
      simp only [Act.put, List.setIfInBounds_toArray, List.set_cons_zero, List.set_cons_succ]
      refine wpAnyH_take (i := 4) (oi := { dst := some 21, op := Op.unOp UnOp.not 4 (Operand.tmp 20), type := 4, pos := "more.go:36", after := _, guard := some (1, true) }) (v := ?_) rfl (by kernel_rfl) (by kernel_rfl) (by kernel_rfl) (fun _ _ _ h => h) (Or.inl ⟨by rfl, ?_⟩) (by assumption) ?_
      rotate_left
      · (intro w hSw; (try dsimp only at hSw); go_simp; try with_reducible rfl)
      simp only [Act.put, List.setIfInBounds_toArray, List.set_cons_zero, List.set_cons_succ]
      refine wpAnyH_take (i := 5) (oi := { dst := some 22, op := Op.move (Operand.tmp 21), type := 4, pos := "more.go:36", after := _, guard := some (1, true) }) (v := ?_) rfl (by kernel_rfl) (by kernel_rfl) (by kernel_rfl) (fun _ _ _ h => h) (Or.inl ⟨by rfl, ?_⟩) (by assumption) ?_
      rotate_left
      · (intro w hSw; (try dsimp only at hSw); go_simp; try with_reducible rfl)
      simp only [Act.put, List.setIfInBounds_toArray, List.set_cons_zero, List.set_cons_succ]
      refine wpAnyH_take (i := 6) (oi := { dst := some 23, op := Op.load 23 (Operand.tmp 8), type := 23, pos := "more.go:36", after := _, guard := some (5, false) }) (v := undef) rfl (by kernel_rfl) (by kernel_rfl) (by kernel_rfl) (fun _ _ _ h => h) (Or.inr ⟨by rfl, rfl⟩) (by assumption) ?_
      simp only [Act.put, List.setIfInBounds_toArray, List.set_cons_zero, List.set_cons_succ]
      refine wpAnyH_take (i := 7) (oi := { dst := some 24, op := Op.load 23 (Operand.tmp 3), type := 23, pos := "more.go:36", after := _, guard := some (5, false) }) (v := undef) rfl (by kernel_rfl) (by kernel_rfl) (by kernel_rfl) (fun _ _ _ h => h) (Or.inr ⟨by rfl, rfl⟩) (by assumption) ?_
      simp only [Act.put, List.setIfInBounds_toArray, List.set_cons_zero, List.set_cons_succ]
      refine wpAnyH_take (i := 8) (oi := { dst := some 25, op := Op.binOp BinOp.eql 23 (Operand.tmp 23) (Operand.tmp 24) 23, type := 4, pos := "more.go:36", after := _, guard := some (5, false) }) (v := undef) rfl (by kernel_rfl) (by kernel_rfl) (by kernel_rfl) (fun _ _ _ h => h) (Or.inr ⟨by rfl, rfl⟩) (by assumption) ?_
      simp only [Act.put, List.setIfInBounds_toArray, List.set_cons_zero, List.set_cons_succ]
      refine wpAnyH_take (i := 9) (oi := { dst := some 26, op := Op.move (Operand.tmp 25), type := 4, pos := "more.go:36", after := _, guard := some (5, false) }) (v := undef) rfl (by kernel_rfl) (by kernel_rfl) (by kernel_rfl) (fun _ _ _ h => h) (Or.inr ⟨by rfl, rfl⟩) (by assumption) ?_
      simp only [Act.put, List.setIfInBounds_toArray, List.set_cons_zero, List.set_cons_succ]
      refine wpAnyH_take (i := 10) (oi := { dst := some 27, op := Op.load 23 (Operand.tmp 9), type := 23, pos := "more.go:36", after := _, guard := some (9, true) }) (v := undef) rfl (by kernel_rfl) (by kernel_rfl) (by kernel_rfl) (fun _ _ _ h => h) (Or.inr ⟨by rfl, rfl⟩) (by assumption) ?_
      simp only [Act.put, List.setIfInBounds_toArray, List.set_cons_zero, List.set_cons_succ]
      refine wpAnyH_take (i := 11) (oi := { dst := some 28, op := Op.load 23 (Operand.tmp 3), type := 23, pos := "more.go:36", after := _, guard := some (9, true) }) (v := undef) rfl (by kernel_rfl) (by kernel_rfl) (by kernel_rfl) (fun _ _ _ h => h) (Or.inr ⟨by rfl, rfl⟩) (by assumption) ?_
      simp only [Act.put, List.setIfInBounds_toArray, List.set_cons_zero, List.set_cons_succ]
      refine wpAnyH_take (i := 12) (oi := { dst := some 29, op := Op.binOp BinOp.eql 23 (Operand.tmp 27) (Operand.tmp 28) 23, type := 4, pos := "more.go:36", after := _, guard := some (9, true) }) (v := undef) rfl (by kernel_rfl) (by kernel_rfl) (by kernel_rfl) (fun _ _ _ h => h) (Or.inr ⟨by rfl, rfl⟩) (by assumption) ?_
      simp only [Act.put, List.setIfInBounds_toArray, List.set_cons_zero, List.set_cons_succ]
      refine wpAnyH_take (i := 13) (oi := { dst := some 30, op := Op.pick (Operand.tmp 26) (Operand.tmp 29) (Operand.const (Value.bool false)), type := 4, pos := "more.go:36", after := _, guard := some (5, false) }) (v := undef) rfl (by kernel_rfl) (by kernel_rfl) (by kernel_rfl) (fun _ _ _ h => h) (Or.inr ⟨by rfl, rfl⟩) (by assumption) ?_
      simp only [Act.put, List.setIfInBounds_toArray, List.set_cons_zero, List.set_cons_succ]
      refine wpAnyH_take (i := 14) (oi := { dst := some 31, op := Op.pick (Operand.tmp 22) (Operand.const (Value.bool true)) (Operand.tmp 30), type := 4, pos := "more.go:36", after := _, guard := some (1, true) }) (v := ?_) rfl (by kernel_rfl) (by kernel_rfl) (by kernel_rfl) (fun _ _ _ h => h) (Or.inl ⟨by rfl, ?_⟩) (by assumption) ?_
      rotate_left
      · (intro w hSw; (try dsimp only at hSw); go_simp; try with_reducible rfl)
      simp only [Act.put, List.setIfInBounds_toArray, List.set_cons_zero, List.set_cons_succ]
      refine wpAnyH_take (i := 15) (oi := { dst := some 32, op := Op.pick (Operand.tmp 18) (Operand.tmp 31) (Operand.const (Value.bool false)), type := 4, pos := "more.go:36", after := _, guard := none }) (v := ?_) rfl (by kernel_rfl) (by kernel_rfl) (by kernel_rfl) (fun _ _ _ h => h) (Or.inl ⟨by rfl, ?_⟩) (by assumption) ?_
      rotate_left
      · (intro w hSw; (try dsimp only at hSw); go_simp; try with_reducible rfl)
      simp only [Act.put, List.setIfInBounds_toArray, List.set_cons_zero, List.set_cons_succ]
      refine wpAnyH_take (i := 16) (oi := { dst := some 33, op := Op.move (Operand.tmp 32), type := 4, pos := "more.go:36", after := _, guard := none }) (v := ?_) rfl (by kernel_rfl) (by kernel_rfl) (by kernel_rfl) (fun _ _ _ h => h) (Or.inl ⟨by rfl, ?_⟩) (by assumption) ?_
      rotate_left
      · (intro w hSw; (try dsimp only at hSw); go_simp; try with_reducible rfl)
      simp only [Act.put, List.setIfInBounds_toArray, List.set_cons_zero, List.set_cons_succ]
      refine wpAnyH_take (i := 17) (oi := { dst := some 34, op := Op.load 23 (Operand.tmp 3), type := 23, pos := "more.go:36", after := _, guard := some (16, true) }) (v := ?_) rfl (by kernel_rfl) (by kernel_rfl) (by kernel_rfl) (fun _ _ _ h => h) (Or.inl ⟨by rfl, ?_⟩) (by assumption) ?_
      rotate_left
      · (intro W hSw; (try dsimp only at hSw); obtain ⟨hs0S, hs1S, hs2S, hs3S⟩ := hSw; have c0_0 : W.cell? ⟨w.heap.size, 0, none⟩ = some (.bool false) := (BoxAt.cell hs0S 0).trans rfl; have c0_1 : W.cell? ⟨w.heap.size, 1, none⟩ = some (.int .i64 (v)) := (BoxAt.cell hs0S 1).trans rfl; have c0_2 : W.cell? ⟨w.heap.size, 2, none⟩ = some (.int .i64 (a)) := (BoxAt.cell hs0S 2).trans rfl; have c1_0 : W.cell? ⟨v1.heap.size, 0, none⟩ = some (.bool false) := (BoxAt.cell hs1S 0).trans rfl; have c1_1 : W.cell? ⟨v1.heap.size, 1, none⟩ = some (.int .i64 (yv)) := (BoxAt.cell hs1S 1).trans rfl; have c1_2 : W.cell? ⟨v1.heap.size, 2, none⟩ = some (.int .i64 (ya)) := (BoxAt.cell hs1S 2).trans rfl; have c2_0 : W.cell? ⟨v5.heap.size, 0, none⟩ = some (.bool false) := (BoxAt.cell hs2S 0).trans rfl; have c2_1 : W.cell? ⟨v5.heap.size, 1, none⟩ = some (.int .i64 (yv)) := (BoxAt.cell hs2S 1).trans rfl; have c2_2 : W.cell? ⟨v5.heap.size, 2, none⟩ = some (.int .i64 (ya)) := (BoxAt.cell hs2S 2).trans rfl; have c3_0 : W.cell? ⟨v8.heap.size, 0, none⟩ = some (.bool uk) := (BoxAt.cell hs3S 0).trans rfl; have c3_1 : W.cell? ⟨v8.heap.size, 1, none⟩ = some (.int .i64 (uv)) := (BoxAt.cell hs3S 1).trans rfl; have c3_2 : W.cell? ⟨v8.heap.size, 2, none⟩ = some (.int .i64 (ua)) := (BoxAt.cell hs3S 2).trans rfl; clear hs0S hs1S hs2S hs3S; go_simp; try with_reducible rfl)
      simp only [Act.put, List.setIfInBounds_toArray, List.set_cons_zero, List.set_cons_succ]
      refine wpAnyH_take (i := 18) (oi := { dst := some 35, op := Op.load 23 (Operand.tmp 8), type := 23, pos := "more.go:36", after := _, guard := some (16, true) }) (v := ?_) rfl (by kernel_rfl) (by kernel_rfl) (by kernel_rfl) (fun _ _ _ h => h) (Or.inl ⟨by rfl, ?_⟩) (by assumption) ?_
      rotate_left
      · (intro W hSw; (try dsimp only at hSw); obtain ⟨hs0S, hs1S, hs2S, hs3S⟩ := hSw; have c0_0 : W.cell? ⟨w.heap.size, 0, none⟩ = some (.bool false) := (BoxAt.cell hs0S 0).trans rfl; have c0_1 : W.cell? ⟨w.heap.size, 1, none⟩ = some (.int .i64 (v)) := (BoxAt.cell hs0S 1).trans rfl; have c0_2 : W.cell? ⟨w.heap.size, 2, none⟩ = some (.int .i64 (a)) := (BoxAt.cell hs0S 2).trans rfl; have c1_0 : W.cell? ⟨v1.heap.size, 0, none⟩ = some (.bool false) := (BoxAt.cell hs1S 0).trans rfl; have c1_1 : W.cell? ⟨v1.heap.size, 1, none⟩ = some (.int .i64 (yv)) := (BoxAt.cell hs1S 1).trans rfl; have c1_2 : W.cell? ⟨v1.heap.size, 2, none⟩ = some (.int .i64 (ya)) := (BoxAt.cell hs1S 2).trans rfl; have c2_0 : W.cell? ⟨v5.heap.size, 0, none⟩ = some (.bool false) := (BoxAt.cell hs2S 0).trans rfl; have c2_1 : W.cell? ⟨v5.heap.size, 1, none⟩ = some (.int .i64 (yv)) := (BoxAt.cell hs2S 1).trans rfl; have c2_2 : W.cell? ⟨v5.heap.size, 2, none⟩ = some (.int .i64 (ya)) := (BoxAt.cell hs2S 2).trans rfl; have c3_0 : W.cell? ⟨v8.heap.size, 0, none⟩ = some (.bool uk) := (BoxAt.cell hs3S 0).trans rfl; have c3_1 : W.cell? ⟨v8.heap.size, 1, none⟩ = some (.int .i64 (uv)) := (BoxAt.cell hs3S 1).trans rfl; have c3_2 : W.cell? ⟨v8.heap.size, 2, none⟩ = some (.int .i64 (ua)) := (BoxAt.cell hs3S 2).trans rfl; clear hs0S hs1S hs2S hs3S; go_simp; try with_reducible rfl)
      simp only [Act.put, List.setIfInBounds_toArray, List.set_cons_zero, List.set_cons_succ]
      refine wpAnyH_take (i := 20) (oi := { dst := some 37, op := Op.load 23 (Operand.tmp 8), type := 23, pos := "more.go:36", after := _, guard := some (16, true) }) (v := ?_) rfl (by kernel_rfl) (by kernel_rfl) (by kernel_rfl) (fun _ _ _ h => h) (Or.inl ⟨by rfl, ?_⟩) (by assumption) ?_
      rotate_left
      · (intro W hSw; (try dsimp only at hSw); obtain ⟨hs0S, hs1S, hs2S, hs3S⟩ := hSw; have c0_0 : W.cell? ⟨w.heap.size, 0, none⟩ = some (.bool false) := (BoxAt.cell hs0S 0).trans rfl; have c0_1 : W.cell? ⟨w.heap.size, 1, none⟩ = some (.int .i64 (v)) := (BoxAt.cell hs0S 1).trans rfl; have c0_2 : W.cell? ⟨w.heap.size, 2, none⟩ = some (.int .i64 (a)) := (BoxAt.cell hs0S 2).trans rfl; have c1_0 : W.cell? ⟨v1.heap.size, 0, none⟩ = some (.bool false) := (BoxAt.cell hs1S 0).trans rfl; have c1_1 : W.cell? ⟨v1.heap.size, 1, none⟩ = some (.int .i64 (yv)) := (BoxAt.cell hs1S 1).trans rfl; have c1_2 : W.cell? ⟨v1.heap.size, 2, none⟩ = some (.int .i64 (ya)) := (BoxAt.cell hs1S 2).trans rfl; have c2_0 : W.cell? ⟨v5.heap.size, 0, none⟩ = some (.bool false) := (BoxAt.cell hs2S 0).trans rfl; have c2_1 : W.cell? ⟨v5.heap.size, 1, none⟩ = some (.int .i64 (yv)) := (BoxAt.cell hs2S 1).trans rfl; have c2_2 : W.cell? ⟨v5.heap.size, 2, none⟩ = some (.int .i64 (ya)) := (BoxAt.cell hs2S 2).trans rfl; have c3_0 : W.cell? ⟨v8.heap.size, 0, none⟩ = some (.bool uk) := (BoxAt.cell hs3S 0).trans rfl; have c3_1 : W.cell? ⟨v8.heap.size, 1, none⟩ = some (.int .i64 (uv)) := (BoxAt.cell hs3S 1).trans rfl; have c3_2 : W.cell? ⟨v8.heap.size, 2, none⟩ = some (.int .i64 (ua)) := (BoxAt.cell hs3S 2).trans rfl; clear hs0S hs1S hs2S hs3S; go_simp; try with_reducible rfl)
      simp only [Act.put, List.setIfInBounds_toArray, List.set_cons_zero, List.set_cons_succ]
      refine wpAnyH_ready (rs := [19]) (by kernel_rfl) (by simp) (AllReadyH.cons (o := { dst := some 36, op := Op.call { callee := Callee.value (Operand.func 13), args := #[Operand.tmp 34, Operand.tmp 35], argTypes := #[23, 23] }, type := 23, pos := "more.go:36", after := _, guard := some (16, true) }) rfl (fun K1021 hK1021 => ?_) AllReadyH.nil)
      go_simp
      refine (carry_no v a false yv ya _).mono ?_
      rintro e v12 ⟨rfl, hb⟩
      have PB := hid (PB.out.belowAll hb)
      have TB := hid (TB.out.belowAll hb)
      have UB := hid (UB.out.belowAll hb)
      have XB := hid (XB.out.belowAll hb)
      have YB := hid (YB.out.belowAll hb)
      have HB := hid (HB.out.trans (hb.mono HB.out.size))
      have hsv12 : v11.heap.size ≤ v12.heap.size := by first | exact hb.size | omega
      clear hb
      refine hK1021.out _ _ (⟨PB.out, TB.out, XB.out, YB.out⟩) (fun hHeld1021 => ?_)
      clear hK1021 K1021
      try simp only [Act.put, List.setIfInBounds_toArray, List.set_cons_zero, List.set_cons_succ]
      refine wpAnyH_take (i := 21) (oi := { dst := some 38, op := Op.binOp BinOp.eql 23 (Operand.tmp 36) (Operand.tmp 37) 23, type := 4, pos := "more.go:36", after := _, guard := some (16, true) }) (v := ?_) rfl (by kernel_rfl) (by kernel_rfl) (by kernel_rfl) (fun _ _ _ h => h) (Or.inl ⟨by rfl, ?_⟩) (by assumption) ?_
      rotate_left
      · (intro W hSw; (try dsimp only at hSw); obtain ⟨hs0S, hs1S, hs2S, hs3S⟩ := hSw; clear hs0S hs1S hs2S hs3S; go_simp; try with_reducible rfl)
      simp only [Act.put, List.setIfInBounds_toArray, List.set_cons_zero, List.set_cons_succ]
      refine wpAnyH_take (i := 22) (oi := { dst := some 39, op := Op.pick (Operand.tmp 33) (Operand.tmp 38) (Operand.const (Value.bool false)), type := 4, pos := "more.go:36", after := _, guard := none }) (v := ?_) rfl (by kernel_rfl) (by kernel_rfl) (by kernel_rfl) (fun _ _ _ h => h) (Or.inl ⟨by rfl, ?_⟩) (by assumption) ?_
      rotate_left
      · (intro w hSw; (try dsimp only at hSw); go_simp; try with_reducible rfl)
      simp only [Act.put, List.setIfInBounds_toArray, List.set_cons_zero, List.set_cons_succ]
      refine wpAnyH_take (i := 23) (oi := { dst := some 40, op := Op.move (Operand.tmp 39), type := 4, pos := "more.go:36", after := _, guard := none }) (v := ?_) rfl (by kernel_rfl) (by kernel_rfl) (by kernel_rfl) (fun _ _ _ h => h) (Or.inl ⟨by rfl, ?_⟩) (by assumption) ?_
      rotate_left
      · (intro w hSw; (try dsimp only at hSw); go_simp; try with_reducible rfl)
      simp only [Act.put, List.setIfInBounds_toArray, List.set_cons_zero, List.set_cons_succ]
      refine wpAnyH_take (i := 24) (oi := { dst := some 41, op := Op.fieldAddr 23 (Operand.tmp 3) 0, type := 0, pos := "more.go:36", after := _, guard := some (23, true) }) (v := ?_) rfl (by kernel_rfl) (by kernel_rfl) (by kernel_rfl) (fun _ _ _ h => h) (Or.inl ⟨by rfl, ?_⟩) (by assumption) ?_
      rotate_left
      · (intro w hSw; (try dsimp only at hSw); go_simp; try with_reducible rfl)
      simp only [Act.put, List.setIfInBounds_toArray, List.set_cons_zero, List.set_cons_succ]
      refine wpAnyH_take (i := 25) (oi := { dst := some 42, op := Op.load 4 (Operand.tmp 41), type := 4, pos := "more.go:36", after := _, guard := some (23, true) }) (v := ?_) rfl (by kernel_rfl) (by kernel_rfl) (by kernel_rfl) (fun _ _ _ h => h) (Or.inl ⟨by rfl, ?_⟩) (by assumption) ?_
      rotate_left
      · (intro W hSw; (try dsimp only at hSw); obtain ⟨hs0S, hs1S, hs2S, hs3S⟩ := hSw; have c0_0 : W.cell? ⟨w.heap.size, 0, none⟩ = some (.bool false) := (BoxAt.cell hs0S 0).trans rfl; have c0_1 : W.cell? ⟨w.heap.size, 1, none⟩ = some (.int .i64 (v)) := (BoxAt.cell hs0S 1).trans rfl; have c0_2 : W.cell? ⟨w.heap.size, 2, none⟩ = some (.int .i64 (a)) := (BoxAt.cell hs0S 2).trans rfl; have c1_0 : W.cell? ⟨v1.heap.size, 0, none⟩ = some (.bool false) := (BoxAt.cell hs1S 0).trans rfl; have c1_1 : W.cell? ⟨v1.heap.size, 1, none⟩ = some (.int .i64 (yv)) := (BoxAt.cell hs1S 1).trans rfl; have c1_2 : W.cell? ⟨v1.heap.size, 2, none⟩ = some (.int .i64 (ya)) := (BoxAt.cell hs1S 2).trans rfl; have c2_0 : W.cell? ⟨v5.heap.size, 0, none⟩ = some (.bool false) := (BoxAt.cell hs2S 0).trans rfl; have c2_1 : W.cell? ⟨v5.heap.size, 1, none⟩ = some (.int .i64 (yv)) := (BoxAt.cell hs2S 1).trans rfl; have c2_2 : W.cell? ⟨v5.heap.size, 2, none⟩ = some (.int .i64 (ya)) := (BoxAt.cell hs2S 2).trans rfl; have c3_0 : W.cell? ⟨v8.heap.size, 0, none⟩ = some (.bool uk) := (BoxAt.cell hs3S 0).trans rfl; have c3_1 : W.cell? ⟨v8.heap.size, 1, none⟩ = some (.int .i64 (uv)) := (BoxAt.cell hs3S 1).trans rfl; have c3_2 : W.cell? ⟨v8.heap.size, 2, none⟩ = some (.int .i64 (ua)) := (BoxAt.cell hs3S 2).trans rfl; clear hs0S hs1S hs2S hs3S; go_simp; try with_reducible rfl)
      simp only [Act.put, List.setIfInBounds_toArray, List.set_cons_zero, List.set_cons_succ]
      refine wpAnyH_take (i := 26) (oi := { dst := some 43, op := Op.move (Operand.tmp 42), type := 4, pos := "more.go:36", after := _, guard := some (23, true) }) (v := ?_) rfl (by kernel_rfl) (by kernel_rfl) (by kernel_rfl) (fun _ _ _ h => h) (Or.inl ⟨by rfl, ?_⟩) (by assumption) ?_
      rotate_left
      · (intro w hSw; (try dsimp only at hSw); go_simp; try with_reducible rfl)
      simp only [Act.put, List.setIfInBounds_toArray, List.set_cons_zero, List.set_cons_succ]
      refine wpAnyH_take (i := 27) (oi := { dst := some 44, op := Op.load 23 (Operand.tmp 8), type := 23, pos := "more.go:36", after := _, guard := some (26, false) }) (v := ?_) rfl (by kernel_rfl) (by kernel_rfl) (by kernel_rfl) (fun _ _ _ h => h) (Or.inl ⟨by rfl, ?_⟩) (by assumption) ?_
      rotate_left
      · (intro W hSw; (try dsimp only at hSw); obtain ⟨hs0S, hs1S, hs2S, hs3S⟩ := hSw; have c0_0 : W.cell? ⟨w.heap.size, 0, none⟩ = some (.bool false) := (BoxAt.cell hs0S 0).trans rfl; have c0_1 : W.cell? ⟨w.heap.size, 1, none⟩ = some (.int .i64 (v)) := (BoxAt.cell hs0S 1).trans rfl; have c0_2 : W.cell? ⟨w.heap.size, 2, none⟩ = some (.int .i64 (a)) := (BoxAt.cell hs0S 2).trans rfl; have c1_0 : W.cell? ⟨v1.heap.size, 0, none⟩ = some (.bool false) := (BoxAt.cell hs1S 0).trans rfl; have c1_1 : W.cell? ⟨v1.heap.size, 1, none⟩ = some (.int .i64 (yv)) := (BoxAt.cell hs1S 1).trans rfl; have c1_2 : W.cell? ⟨v1.heap.size, 2, none⟩ = some (.int .i64 (ya)) := (BoxAt.cell hs1S 2).trans rfl; have c2_0 : W.cell? ⟨v5.heap.size, 0, none⟩ = some (.bool false) := (BoxAt.cell hs2S 0).trans rfl; have c2_1 : W.cell? ⟨v5.heap.size, 1, none⟩ = some (.int .i64 (yv)) := (BoxAt.cell hs2S 1).trans rfl; have c2_2 : W.cell? ⟨v5.heap.size, 2, none⟩ = some (.int .i64 (ya)) := (BoxAt.cell hs2S 2).trans rfl; have c3_0 : W.cell? ⟨v8.heap.size, 0, none⟩ = some (.bool uk) := (BoxAt.cell hs3S 0).trans rfl; have c3_1 : W.cell? ⟨v8.heap.size, 1, none⟩ = some (.int .i64 (uv)) := (BoxAt.cell hs3S 1).trans rfl; have c3_2 : W.cell? ⟨v8.heap.size, 2, none⟩ = some (.int .i64 (ua)) := (BoxAt.cell hs3S 2).trans rfl; clear hs0S hs1S hs2S hs3S; go_simp; try with_reducible rfl)
      simp only [Act.put, List.setIfInBounds_toArray, List.set_cons_zero, List.set_cons_succ]
      refine wpAnyH_take (i := 28) (oi := { dst := some 45, op := Op.load 23 (Operand.tmp 4), type := 23, pos := "more.go:36", after := _, guard := some (26, false) }) (v := ?_) rfl (by kernel_rfl) (by kernel_rfl) (by kernel_rfl) (fun _ _ _ h => h) (Or.inl ⟨by rfl, ?_⟩) (by assumption) ?_
      rotate_left
      · (intro W hSw; (try dsimp only at hSw); obtain ⟨hs0S, hs1S, hs2S, hs3S⟩ := hSw; have c0_0 : W.cell? ⟨w.heap.size, 0, none⟩ = some (.bool false) := (BoxAt.cell hs0S 0).trans rfl; have c0_1 : W.cell? ⟨w.heap.size, 1, none⟩ = some (.int .i64 (v)) := (BoxAt.cell hs0S 1).trans rfl; have c0_2 : W.cell? ⟨w.heap.size, 2, none⟩ = some (.int .i64 (a)) := (BoxAt.cell hs0S 2).trans rfl; have c1_0 : W.cell? ⟨v1.heap.size, 0, none⟩ = some (.bool false) := (BoxAt.cell hs1S 0).trans rfl; have c1_1 : W.cell? ⟨v1.heap.size, 1, none⟩ = some (.int .i64 (yv)) := (BoxAt.cell hs1S 1).trans rfl; have c1_2 : W.cell? ⟨v1.heap.size, 2, none⟩ = some (.int .i64 (ya)) := (BoxAt.cell hs1S 2).trans rfl; have c2_0 : W.cell? ⟨v5.heap.size, 0, none⟩ = some (.bool false) := (BoxAt.cell hs2S 0).trans rfl; have c2_1 : W.cell? ⟨v5.heap.size, 1, none⟩ = some (.int .i64 (yv)) := (BoxAt.cell hs2S 1).trans rfl; have c2_2 : W.cell? ⟨v5.heap.size, 2, none⟩ = some (.int .i64 (ya)) := (BoxAt.cell hs2S 2).trans rfl; have c3_0 : W.cell? ⟨v8.heap.size, 0, none⟩ = some (.bool uk) := (BoxAt.cell hs3S 0).trans rfl; have c3_1 : W.cell? ⟨v8.heap.size, 1, none⟩ = some (.int .i64 (uv)) := (BoxAt.cell hs3S 1).trans rfl; have c3_2 : W.cell? ⟨v8.heap.size, 2, none⟩ = some (.int .i64 (ua)) := (BoxAt.cell hs3S 2).trans rfl; clear hs0S hs1S hs2S hs3S; go_simp; try with_reducible rfl)
      simp only [Act.put, List.setIfInBounds_toArray, List.set_cons_zero, List.set_cons_succ]
      refine wpAnyH_take (i := 29) (oi := { dst := some 46, op := Op.binOp BinOp.eql 23 (Operand.tmp 44) (Operand.tmp 45) 23, type := 4, pos := "more.go:36", after := _, guard := some (26, false) }) (v := ?_) rfl (by kernel_rfl) (by kernel_rfl) (by kernel_rfl) (fun _ _ _ h => h) (Or.inl ⟨by rfl, ?_⟩) (by assumption) ?_
      rotate_left
      · (intro W hSw; (try dsimp only at hSw); obtain ⟨hs0S, hs1S, hs2S, hs3S⟩ := hSw; clear hs0S hs1S hs2S hs3S; go_simp; try with_reducible rfl)
      simp only [Act.put, List.setIfInBounds_toArray, List.set_cons_zero, List.set_cons_succ]
      refine wpAnyH_take (i := 30) (oi := { dst := some 47, op := Op.pick (Operand.tmp 43) (Operand.const (Value.bool true)) (Operand.tmp 46), type := 4, pos := "more.go:36", after := _, guard := some (23, true) }) (v := ?_) rfl (by kernel_rfl) (by kernel_rfl) (by kernel_rfl) (fun _ _ _ h => h) (Or.inl ⟨by rfl, ?_⟩) (by assumption) ?_
      rotate_left
      · (intro w hSw; (try dsimp only at hSw); go_simp; try with_reducible rfl)
      simp only [Act.put, List.setIfInBounds_toArray, List.set_cons_zero, List.set_cons_succ]
      refine wpAnyH_take (i := 31) (oi := { dst := some 48, op := Op.pick (Operand.tmp 40) (Operand.tmp 47) (Operand.const (Value.bool false)), type := 4, pos := "more.go:36", after := _, guard := none }) (v := ?_) rfl (by kernel_rfl) (by kernel_rfl) (by kernel_rfl) (fun _ _ _ h => h) (Or.inl ⟨by rfl, ?_⟩) (by assumption) ?_
      rotate_left
      · (intro w hSw; (try dsimp only at hSw); go_simp; try with_reducible rfl)
      simp only [Act.put, List.setIfInBounds_toArray, List.set_cons_zero, List.set_cons_succ]
      refine wpAnyH_take (i := 32) (oi := { dst := some 6, op := Op.assign (Operand.tmp 48), type := 4, pos := "more.go:36", after := _, guard := none }) (v := ?_) rfl (by kernel_rfl) (by kernel_rfl) (by kernel_rfl) (fun _ _ _ h => h) (Or.inl ⟨by rfl, ?_⟩) (by assumption) ?_
      rotate_left
      · (intro w hSw; (try dsimp only at hSw); go_simp; try with_reducible rfl)
      simp only [Act.put, List.setIfInBounds_toArray, List.set_cons_zero, List.set_cons_succ]
      refine wpAnyH_done (by kernel_rfl) ?_ _
      clear hHeld hHeld1021
      go_wp2
      go_ret
      exact ⟨rfl, HB.out⟩
    · have FL1 := hid trivial
      have FL2 := hid trivial
      have FL3 := hid trivial
      go_wp2_with (first
        | (have hfl := FL1.out
           refine wpList_box rfl 23 (.tmp 0) rfl #[.bool false, .int .i64 (v), .int .i64 (a)] rfl ?_
           intro v1 b h z
           have PB := hid (show BoxAt v1 w.heap.size 23 #[.bool false, .int .i64 (v), .int .i64 (a)] from b)
           have HB := hid (HB.out.trans (h.mono HB.out.size))
           have hsv1 : w.heap.size + 1 ≤ v1.heap.size := by first | exact h.size | omega
           clear b h z hfl FL1)
        | (have hfl := FL2.out
           refine wpList_box rfl 23 (.tmp 1) rfl #[.bool true, .int .i64 (yv), .int .i64 (ya)] rfl ?_
           intro v2 b h z
           have TB := hid (show BoxAt v2 v1.heap.size 23 #[.bool true, .int .i64 (yv), .int .i64 (ya)] from b)
           have PB := hid (PB.out.belowAll h)
           have HB := hid (HB.out.trans (h.mono HB.out.size))
           have hsv2 : v1.heap.size + 1 ≤ v2.heap.size := by first | exact h.size | omega
           clear b h z hfl FL2)
        | (have hfl := FL3.out
           refine wpList_box rfl 23 (.tmp 2) rfl #[.bool uk, .int .i64 (uv), .int .i64 (ua)] rfl ?_
           intro v3 b h z
           have UB := hid (show BoxAt v3 v2.heap.size 23 #[.bool uk, .int .i64 (uv), .int .i64 (ua)] from b)
           have PB := hid (PB.out.belowAll h)
           have TB := hid (TB.out.belowAll h)
           have HB := hid (HB.out.trans (h.mono HB.out.size))
           have hsv3 : v2.heap.size + 1 ≤ v3.heap.size := by first | exact h.size | omega
           clear b h z hfl FL3)
        | fail)
      refine (spawake_any _).mono ?_
      rintro e v4 ⟨rfl, hb⟩
      have PB := hid (PB.out.belowAll hb)
      have TB := hid (TB.out.belowAll hb)
      have UB := hid (UB.out.belowAll hb)
      have HB := hid (HB.out.trans (hb.mono HB.out.size))
      have hsv4 : v3.heap.size ≤ v4.heap.size := by first | exact hb.size | omega
      clear hb
      go_wp2_with (first
        | (refine wpList_load_box rfl 23 _ rfl (w.heap.size) rfl _ _ PB.out _ Try.underlying23 Try.infoSp ?_)
        | (refine wpList_load_box rfl 23 _ rfl (v1.heap.size) rfl _ _ TB.out _ Try.underlying23 Try.infoSp ?_)
        | fail)
      refine (carry_no v a true yv ya _).mono ?_
      rintro e v5 ⟨rfl, hb⟩
      have PB := hid (PB.out.belowAll hb)
      have TB := hid (TB.out.belowAll hb)
      have UB := hid (UB.out.belowAll hb)
      have HB := hid (HB.out.trans (hb.mono HB.out.size))
      have hsv5 : v4.heap.size ≤ v5.heap.size := by first | exact hb.size | omega
      clear hb
      have FL4 := hid trivial
      have FL5 := hid trivial
      go_wp2_with (first
        | (have hfl := FL4.out
           refine wpList_new rfl 23 rfl _ Try.zeroSp ?_
           intro v6 b h z
           have XB := hid (show BoxAt v6 v5.heap.size 23 #[.bool false, .int .i64 0, .int .i64 0] from b)
           have PB := hid (PB.out.belowAll h)
           have TB := hid (TB.out.belowAll h)
           have UB := hid (UB.out.belowAll h)
           have HB := hid (HB.out.trans (h.mono HB.out.size))
           have hsv6 : v5.heap.size + 1 ≤ v6.heap.size := by first | exact h.size | omega
           clear b h z hfl FL4)
        | (have hfl := FL5.out
           refine wpList_store_whole rfl 23 _ _ rfl rfl (v5.heap.size) rfl [.bool true, .int .i64 (yv), .int .i64 (ya)] rfl _ _ XB.out rfl Try.infoSp (by simp [Value.oneCell']) ?_
           intro v7 b g z
           have hsv7 : v6.heap.size ≤ v7.heap.size := by omega
           have XB := hid (show BoxAt v7 (v5.heap.size) 23 #[.bool true, .int .i64 (yv), .int .i64 (ya)] from b)
           have PB := hid (PB.out.grown g (fun e => by have := Option.some.inj e; omega))
           have TB := hid (TB.out.grown g (fun e => by have := Option.some.inj e; omega))
           have UB := hid (UB.out.grown g (fun e => by have := Option.some.inj e; omega))
           have HB := hid (HB.out.trans (grown_below g (by omega) (by omega)))
           clear b g z hfl FL5)
        | (refine wpList_load_box rfl 23 _ rfl (v5.heap.size) rfl _ _ XB.out _ Try.underlying23 Try.infoSp ?_)
        | (refine wpList_load_box rfl 23 _ rfl (v2.heap.size) rfl _ _ UB.out _ Try.underlying23 Try.infoSp ?_)
        | fail)
      refine (carry_yes yv ya uk uv ua _).mono ?_
      rintro e v8 ⟨rfl, hb⟩
      have PB := hid (PB.out.belowAll hb)
      have TB := hid (TB.out.belowAll hb)
      have UB := hid (UB.out.belowAll hb)
      have XB := hid (XB.out.belowAll hb)
      have HB := hid (HB.out.trans (hb.mono HB.out.size))
      have hsv8 : v7.heap.size ≤ v8.heap.size := by first | exact hb.size | omega
      clear hb
      have FL6 := hid trivial
      have FL7 := hid trivial
      go_wp2_with (first
        | (have hfl := FL6.out
           refine wpList_new rfl 23 rfl _ Try.zeroSp ?_
           intro v9 b h z
           have YB := hid (show BoxAt v9 v8.heap.size 23 #[.bool false, .int .i64 0, .int .i64 0] from b)
           have PB := hid (PB.out.belowAll h)
           have TB := hid (TB.out.belowAll h)
           have UB := hid (UB.out.belowAll h)
           have XB := hid (XB.out.belowAll h)
           have HB := hid (HB.out.trans (h.mono HB.out.size))
           have hsv9 : v8.heap.size + 1 ≤ v9.heap.size := by first | exact h.size | omega
           clear b h z hfl FL6)
        | (have hfl := FL7.out
           refine wpList_store_whole rfl 23 _ _ rfl rfl (v8.heap.size) rfl [.bool true, .int .i64 (yv), .int .i64 (ya)] rfl _ _ YB.out rfl Try.infoSp (by simp [Value.oneCell']) ?_
           intro v10 b g z
           have hsv10 : v9.heap.size ≤ v10.heap.size := by omega
           have YB := hid (show BoxAt v10 (v8.heap.size) 23 #[.bool true, .int .i64 (yv), .int .i64 (ya)] from b)
           have PB := hid (PB.out.grown g (fun e => by have := Option.some.inj e; omega))
           have TB := hid (TB.out.grown g (fun e => by have := Option.some.inj e; omega))
           have UB := hid (UB.out.grown g (fun e => by have := Option.some.inj e; omega))
           have XB := hid (XB.out.grown g (fun e => by have := Option.some.inj e; omega))
           have HB := hid (HB.out.trans (grown_below g (by omega) (by omega)))
           clear b g z hfl FL7
           refine Hid.out ?_)
        | fail)
      refine hid ?_
      go_wp2_with fail
      have PB := hid (BoxAt.drew PB.out)
      have TB := hid (BoxAt.drew TB.out)
      have UB := hid (BoxAt.drew UB.out)
      have XB := hid (BoxAt.drew XB.out)
      have YB := hid (BoxAt.drew YB.out)
      have HB := hid (HB.out.drew)
      have hsv11 : v10.heap.size ≤ v10.drew.heap.size := Nat.le_refl _
      refine wp_region_held_drew (S := (fun w' : World => BoxAt w' (w.heap.size) 23 #[.bool false, .int .i64 (v), .int .i64 (a)] ∧ BoxAt w' (v1.heap.size) 23 #[.bool true, .int .i64 (yv), .int .i64 (ya)] ∧ BoxAt w' (v5.heap.size) 23 #[.bool true, .int .i64 (yv), .int .i64 (ya)] ∧ BoxAt w' (v8.heap.size) 23 #[.bool true, .int .i64 (yv), .int .i64 (ya)])) (by kernel_rfl) (⟨PB.out, TB.out, XB.out, YB.out⟩) (fun hHeld => ?_)
      generalize v10.drew = v11 at *
      refine wpAnyH_take (i := 0) (oi := { dst := some 17, op := Op.move (Operand.tmp 7), type := 4, pos := "more.go:36", after := _, guard := none }) (v := ?_) rfl (by kernel_rfl) (by kernel_rfl) (by kernel_rfl) (fun _ _ _ h => h) (Or.inl ⟨by rfl, ?_⟩) (by assumption) ?_
      rotate_left
      · (intro w hSw; (try dsimp only at hSw); go_simp; try with_reducible rfl)
      simp only [Act.put, List.setIfInBounds_toArray, List.set_cons_zero, List.set_cons_succ]
      refine wpAnyH_take (i := 1) (oi := { dst := some 18, op := Op.move (Operand.tmp 17), type := 4, pos := "more.go:36", after := _, guard := none }) (v := ?_) rfl (by kernel_rfl) (by kernel_rfl) (by kernel_rfl) (fun _ _ _ h => h) (Or.inl ⟨by rfl, ?_⟩) (by assumption) ?_
      rotate_left
      · (intro w hSw; (try dsimp only at hSw); go_simp; try with_reducible rfl)
      simp only [Act.put, List.setIfInBounds_toArray, List.set_cons_zero, List.set_cons_succ]
      refine wpAnyH_take (i := 2) (oi := { dst := some 19, op := Op.fieldAddr 23 (Operand.tmp 3) 0, type := 0, pos := "more.go:36", after := _, guard := some (1, true) }) (v := ?_) rfl (by kernel_rfl) (by kernel_rfl) (by kernel_rfl) (fun _ _ _ h => h) (Or.inl ⟨by rfl, ?_⟩) (by assumption) ?_
      rotate_left
      · (intro w hSw; (try dsimp only at hSw); go_simp; try with_reducible rfl)
      simp only [Act.put, List.setIfInBounds_toArray, List.set_cons_zero, List.set_cons_succ]
      refine wpAnyH_take (i := 3) (oi := { dst := some 20, op := Op.load 4 (Operand.tmp 19), type := 4, pos := "more.go:36", after := _, guard := some (1, true) }) (v := ?_) rfl (by kernel_rfl) (by kernel_rfl) (by kernel_rfl) (fun _ _ _ h => h) (Or.inl ⟨by rfl, ?_⟩) (by assumption) ?_
      rotate_left
      · (intro W hSw; (try dsimp only at hSw); obtain ⟨hs0S, hs1S, hs2S, hs3S⟩ := hSw; have c0_0 : W.cell? ⟨w.heap.size, 0, none⟩ = some (.bool false) := (BoxAt.cell hs0S 0).trans rfl; have c0_1 : W.cell? ⟨w.heap.size, 1, none⟩ = some (.int .i64 (v)) := (BoxAt.cell hs0S 1).trans rfl; have c0_2 : W.cell? ⟨w.heap.size, 2, none⟩ = some (.int .i64 (a)) := (BoxAt.cell hs0S 2).trans rfl; have c1_0 : W.cell? ⟨v1.heap.size, 0, none⟩ = some (.bool true) := (BoxAt.cell hs1S 0).trans rfl; have c1_1 : W.cell? ⟨v1.heap.size, 1, none⟩ = some (.int .i64 (yv)) := (BoxAt.cell hs1S 1).trans rfl; have c1_2 : W.cell? ⟨v1.heap.size, 2, none⟩ = some (.int .i64 (ya)) := (BoxAt.cell hs1S 2).trans rfl; have c2_0 : W.cell? ⟨v5.heap.size, 0, none⟩ = some (.bool true) := (BoxAt.cell hs2S 0).trans rfl; have c2_1 : W.cell? ⟨v5.heap.size, 1, none⟩ = some (.int .i64 (yv)) := (BoxAt.cell hs2S 1).trans rfl; have c2_2 : W.cell? ⟨v5.heap.size, 2, none⟩ = some (.int .i64 (ya)) := (BoxAt.cell hs2S 2).trans rfl; have c3_0 : W.cell? ⟨v8.heap.size, 0, none⟩ = some (.bool true) := (BoxAt.cell hs3S 0).trans rfl; have c3_1 : W.cell? ⟨v8.heap.size, 1, none⟩ = some (.int .i64 (yv)) := (BoxAt.cell hs3S 1).trans rfl; have c3_2 : W.cell? ⟨v8.heap.size, 2, none⟩ = some (.int .i64 (ya)) := (BoxAt.cell hs3S 2).trans rfl; clear hs0S hs1S hs2S hs3S; go_simp; try with_reducible rfl)
      simp only [Act.put, List.setIfInBounds_toArray, List.set_cons_zero, List.set_cons_succ]
      refine wpAnyH_take (i := 4) (oi := { dst := some 21, op := Op.unOp UnOp.not 4 (Operand.tmp 20), type := 4, pos := "more.go:36", after := _, guard := some (1, true) }) (v := ?_) rfl (by kernel_rfl) (by kernel_rfl) (by kernel_rfl) (fun _ _ _ h => h) (Or.inl ⟨by rfl, ?_⟩) (by assumption) ?_
      rotate_left
      · (intro w hSw; (try dsimp only at hSw); go_simp; try with_reducible rfl)
      simp only [Act.put, List.setIfInBounds_toArray, List.set_cons_zero, List.set_cons_succ]
      refine wpAnyH_take (i := 5) (oi := { dst := some 22, op := Op.move (Operand.tmp 21), type := 4, pos := "more.go:36", after := _, guard := some (1, true) }) (v := ?_) rfl (by kernel_rfl) (by kernel_rfl) (by kernel_rfl) (fun _ _ _ h => h) (Or.inl ⟨by rfl, ?_⟩) (by assumption) ?_
      rotate_left
      · (intro w hSw; (try dsimp only at hSw); go_simp; try with_reducible rfl)
      simp only [Act.put, List.setIfInBounds_toArray, List.set_cons_zero, List.set_cons_succ]
      refine wpAnyH_take (i := 6) (oi := { dst := some 23, op := Op.load 23 (Operand.tmp 8), type := 23, pos := "more.go:36", after := _, guard := some (5, false) }) (v := undef) rfl (by kernel_rfl) (by kernel_rfl) (by kernel_rfl) (fun _ _ _ h => h) (Or.inr ⟨by rfl, rfl⟩) (by assumption) ?_
      simp only [Act.put, List.setIfInBounds_toArray, List.set_cons_zero, List.set_cons_succ]
      refine wpAnyH_take (i := 7) (oi := { dst := some 24, op := Op.load 23 (Operand.tmp 3), type := 23, pos := "more.go:36", after := _, guard := some (5, false) }) (v := undef) rfl (by kernel_rfl) (by kernel_rfl) (by kernel_rfl) (fun _ _ _ h => h) (Or.inr ⟨by rfl, rfl⟩) (by assumption) ?_
      simp only [Act.put, List.setIfInBounds_toArray, List.set_cons_zero, List.set_cons_succ]
      refine wpAnyH_take (i := 8) (oi := { dst := some 25, op := Op.binOp BinOp.eql 23 (Operand.tmp 23) (Operand.tmp 24) 23, type := 4, pos := "more.go:36", after := _, guard := some (5, false) }) (v := undef) rfl (by kernel_rfl) (by kernel_rfl) (by kernel_rfl) (fun _ _ _ h => h) (Or.inr ⟨by rfl, rfl⟩) (by assumption) ?_
      simp only [Act.put, List.setIfInBounds_toArray, List.set_cons_zero, List.set_cons_succ]
      refine wpAnyH_take (i := 9) (oi := { dst := some 26, op := Op.move (Operand.tmp 25), type := 4, pos := "more.go:36", after := _, guard := some (5, false) }) (v := undef) rfl (by kernel_rfl) (by kernel_rfl) (by kernel_rfl) (fun _ _ _ h => h) (Or.inr ⟨by rfl, rfl⟩) (by assumption) ?_
      simp only [Act.put, List.setIfInBounds_toArray, List.set_cons_zero, List.set_cons_succ]
      refine wpAnyH_take (i := 10) (oi := { dst := some 27, op := Op.load 23 (Operand.tmp 9), type := 23, pos := "more.go:36", after := _, guard := some (9, true) }) (v := undef) rfl (by kernel_rfl) (by kernel_rfl) (by kernel_rfl) (fun _ _ _ h => h) (Or.inr ⟨by rfl, rfl⟩) (by assumption) ?_
      simp only [Act.put, List.setIfInBounds_toArray, List.set_cons_zero, List.set_cons_succ]
      refine wpAnyH_take (i := 11) (oi := { dst := some 28, op := Op.load 23 (Operand.tmp 3), type := 23, pos := "more.go:36", after := _, guard := some (9, true) }) (v := undef) rfl (by kernel_rfl) (by kernel_rfl) (by kernel_rfl) (fun _ _ _ h => h) (Or.inr ⟨by rfl, rfl⟩) (by assumption) ?_
      simp only [Act.put, List.setIfInBounds_toArray, List.set_cons_zero, List.set_cons_succ]
      refine wpAnyH_take (i := 12) (oi := { dst := some 29, op := Op.binOp BinOp.eql 23 (Operand.tmp 27) (Operand.tmp 28) 23, type := 4, pos := "more.go:36", after := _, guard := some (9, true) }) (v := undef) rfl (by kernel_rfl) (by kernel_rfl) (by kernel_rfl) (fun _ _ _ h => h) (Or.inr ⟨by rfl, rfl⟩) (by assumption) ?_
      simp only [Act.put, List.setIfInBounds_toArray, List.set_cons_zero, List.set_cons_succ]
      refine wpAnyH_take (i := 13) (oi := { dst := some 30, op := Op.pick (Operand.tmp 26) (Operand.tmp 29) (Operand.const (Value.bool false)), type := 4, pos := "more.go:36", after := _, guard := some (5, false) }) (v := undef) rfl (by kernel_rfl) (by kernel_rfl) (by kernel_rfl) (fun _ _ _ h => h) (Or.inr ⟨by rfl, rfl⟩) (by assumption) ?_
      simp only [Act.put, List.setIfInBounds_toArray, List.set_cons_zero, List.set_cons_succ]
      refine wpAnyH_take (i := 14) (oi := { dst := some 31, op := Op.pick (Operand.tmp 22) (Operand.const (Value.bool true)) (Operand.tmp 30), type := 4, pos := "more.go:36", after := _, guard := some (1, true) }) (v := ?_) rfl (by kernel_rfl) (by kernel_rfl) (by kernel_rfl) (fun _ _ _ h => h) (Or.inl ⟨by rfl, ?_⟩) (by assumption) ?_
      rotate_left
      · (intro w hSw; (try dsimp only at hSw); go_simp; try with_reducible rfl)
      simp only [Act.put, List.setIfInBounds_toArray, List.set_cons_zero, List.set_cons_succ]
      refine wpAnyH_take (i := 15) (oi := { dst := some 32, op := Op.pick (Operand.tmp 18) (Operand.tmp 31) (Operand.const (Value.bool false)), type := 4, pos := "more.go:36", after := _, guard := none }) (v := ?_) rfl (by kernel_rfl) (by kernel_rfl) (by kernel_rfl) (fun _ _ _ h => h) (Or.inl ⟨by rfl, ?_⟩) (by assumption) ?_
      rotate_left
      · (intro w hSw; (try dsimp only at hSw); go_simp; try with_reducible rfl)
      simp only [Act.put, List.setIfInBounds_toArray, List.set_cons_zero, List.set_cons_succ]
      refine wpAnyH_take (i := 16) (oi := { dst := some 33, op := Op.move (Operand.tmp 32), type := 4, pos := "more.go:36", after := _, guard := none }) (v := ?_) rfl (by kernel_rfl) (by kernel_rfl) (by kernel_rfl) (fun _ _ _ h => h) (Or.inl ⟨by rfl, ?_⟩) (by assumption) ?_
      rotate_left
      · (intro w hSw; (try dsimp only at hSw); go_simp; try with_reducible rfl)
      simp only [Act.put, List.setIfInBounds_toArray, List.set_cons_zero, List.set_cons_succ]
      refine wpAnyH_take (i := 17) (oi := { dst := some 34, op := Op.load 23 (Operand.tmp 3), type := 23, pos := "more.go:36", after := _, guard := some (16, true) }) (v := ?_) rfl (by kernel_rfl) (by kernel_rfl) (by kernel_rfl) (fun _ _ _ h => h) (Or.inl ⟨by rfl, ?_⟩) (by assumption) ?_
      rotate_left
      · (intro W hSw; (try dsimp only at hSw); obtain ⟨hs0S, hs1S, hs2S, hs3S⟩ := hSw; have c0_0 : W.cell? ⟨w.heap.size, 0, none⟩ = some (.bool false) := (BoxAt.cell hs0S 0).trans rfl; have c0_1 : W.cell? ⟨w.heap.size, 1, none⟩ = some (.int .i64 (v)) := (BoxAt.cell hs0S 1).trans rfl; have c0_2 : W.cell? ⟨w.heap.size, 2, none⟩ = some (.int .i64 (a)) := (BoxAt.cell hs0S 2).trans rfl; have c1_0 : W.cell? ⟨v1.heap.size, 0, none⟩ = some (.bool true) := (BoxAt.cell hs1S 0).trans rfl; have c1_1 : W.cell? ⟨v1.heap.size, 1, none⟩ = some (.int .i64 (yv)) := (BoxAt.cell hs1S 1).trans rfl; have c1_2 : W.cell? ⟨v1.heap.size, 2, none⟩ = some (.int .i64 (ya)) := (BoxAt.cell hs1S 2).trans rfl; have c2_0 : W.cell? ⟨v5.heap.size, 0, none⟩ = some (.bool true) := (BoxAt.cell hs2S 0).trans rfl; have c2_1 : W.cell? ⟨v5.heap.size, 1, none⟩ = some (.int .i64 (yv)) := (BoxAt.cell hs2S 1).trans rfl; have c2_2 : W.cell? ⟨v5.heap.size, 2, none⟩ = some (.int .i64 (ya)) := (BoxAt.cell hs2S 2).trans rfl; have c3_0 : W.cell? ⟨v8.heap.size, 0, none⟩ = some (.bool true) := (BoxAt.cell hs3S 0).trans rfl; have c3_1 : W.cell? ⟨v8.heap.size, 1, none⟩ = some (.int .i64 (yv)) := (BoxAt.cell hs3S 1).trans rfl; have c3_2 : W.cell? ⟨v8.heap.size, 2, none⟩ = some (.int .i64 (ya)) := (BoxAt.cell hs3S 2).trans rfl; clear hs0S hs1S hs2S hs3S; go_simp; try with_reducible rfl)
      simp only [Act.put, List.setIfInBounds_toArray, List.set_cons_zero, List.set_cons_succ]
      refine wpAnyH_take (i := 18) (oi := { dst := some 35, op := Op.load 23 (Operand.tmp 8), type := 23, pos := "more.go:36", after := _, guard := some (16, true) }) (v := ?_) rfl (by kernel_rfl) (by kernel_rfl) (by kernel_rfl) (fun _ _ _ h => h) (Or.inl ⟨by rfl, ?_⟩) (by assumption) ?_
      rotate_left
      · (intro W hSw; (try dsimp only at hSw); obtain ⟨hs0S, hs1S, hs2S, hs3S⟩ := hSw; have c0_0 : W.cell? ⟨w.heap.size, 0, none⟩ = some (.bool false) := (BoxAt.cell hs0S 0).trans rfl; have c0_1 : W.cell? ⟨w.heap.size, 1, none⟩ = some (.int .i64 (v)) := (BoxAt.cell hs0S 1).trans rfl; have c0_2 : W.cell? ⟨w.heap.size, 2, none⟩ = some (.int .i64 (a)) := (BoxAt.cell hs0S 2).trans rfl; have c1_0 : W.cell? ⟨v1.heap.size, 0, none⟩ = some (.bool true) := (BoxAt.cell hs1S 0).trans rfl; have c1_1 : W.cell? ⟨v1.heap.size, 1, none⟩ = some (.int .i64 (yv)) := (BoxAt.cell hs1S 1).trans rfl; have c1_2 : W.cell? ⟨v1.heap.size, 2, none⟩ = some (.int .i64 (ya)) := (BoxAt.cell hs1S 2).trans rfl; have c2_0 : W.cell? ⟨v5.heap.size, 0, none⟩ = some (.bool true) := (BoxAt.cell hs2S 0).trans rfl; have c2_1 : W.cell? ⟨v5.heap.size, 1, none⟩ = some (.int .i64 (yv)) := (BoxAt.cell hs2S 1).trans rfl; have c2_2 : W.cell? ⟨v5.heap.size, 2, none⟩ = some (.int .i64 (ya)) := (BoxAt.cell hs2S 2).trans rfl; have c3_0 : W.cell? ⟨v8.heap.size, 0, none⟩ = some (.bool true) := (BoxAt.cell hs3S 0).trans rfl; have c3_1 : W.cell? ⟨v8.heap.size, 1, none⟩ = some (.int .i64 (yv)) := (BoxAt.cell hs3S 1).trans rfl; have c3_2 : W.cell? ⟨v8.heap.size, 2, none⟩ = some (.int .i64 (ya)) := (BoxAt.cell hs3S 2).trans rfl; clear hs0S hs1S hs2S hs3S; go_simp; try with_reducible rfl)
      simp only [Act.put, List.setIfInBounds_toArray, List.set_cons_zero, List.set_cons_succ]
      refine wpAnyH_take (i := 20) (oi := { dst := some 37, op := Op.load 23 (Operand.tmp 8), type := 23, pos := "more.go:36", after := _, guard := some (16, true) }) (v := ?_) rfl (by kernel_rfl) (by kernel_rfl) (by kernel_rfl) (fun _ _ _ h => h) (Or.inl ⟨by rfl, ?_⟩) (by assumption) ?_
      rotate_left
      · (intro W hSw; (try dsimp only at hSw); obtain ⟨hs0S, hs1S, hs2S, hs3S⟩ := hSw; have c0_0 : W.cell? ⟨w.heap.size, 0, none⟩ = some (.bool false) := (BoxAt.cell hs0S 0).trans rfl; have c0_1 : W.cell? ⟨w.heap.size, 1, none⟩ = some (.int .i64 (v)) := (BoxAt.cell hs0S 1).trans rfl; have c0_2 : W.cell? ⟨w.heap.size, 2, none⟩ = some (.int .i64 (a)) := (BoxAt.cell hs0S 2).trans rfl; have c1_0 : W.cell? ⟨v1.heap.size, 0, none⟩ = some (.bool true) := (BoxAt.cell hs1S 0).trans rfl; have c1_1 : W.cell? ⟨v1.heap.size, 1, none⟩ = some (.int .i64 (yv)) := (BoxAt.cell hs1S 1).trans rfl; have c1_2 : W.cell? ⟨v1.heap.size, 2, none⟩ = some (.int .i64 (ya)) := (BoxAt.cell hs1S 2).trans rfl; have c2_0 : W.cell? ⟨v5.heap.size, 0, none⟩ = some (.bool true) := (BoxAt.cell hs2S 0).trans rfl; have c2_1 : W.cell? ⟨v5.heap.size, 1, none⟩ = some (.int .i64 (yv)) := (BoxAt.cell hs2S 1).trans rfl; have c2_2 : W.cell? ⟨v5.heap.size, 2, none⟩ = some (.int .i64 (ya)) := (BoxAt.cell hs2S 2).trans rfl; have c3_0 : W.cell? ⟨v8.heap.size, 0, none⟩ = some (.bool true) := (BoxAt.cell hs3S 0).trans rfl; have c3_1 : W.cell? ⟨v8.heap.size, 1, none⟩ = some (.int .i64 (yv)) := (BoxAt.cell hs3S 1).trans rfl; have c3_2 : W.cell? ⟨v8.heap.size, 2, none⟩ = some (.int .i64 (ya)) := (BoxAt.cell hs3S 2).trans rfl; clear hs0S hs1S hs2S hs3S; go_simp; try with_reducible rfl)
      simp only [Act.put, List.setIfInBounds_toArray, List.set_cons_zero, List.set_cons_succ]
      refine wpAnyH_ready (rs := [19]) (by kernel_rfl) (by simp) (AllReadyH.cons (o := { dst := some 36, op := Op.call { callee := Callee.value (Operand.func 13), args := #[Operand.tmp 34, Operand.tmp 35], argTypes := #[23, 23] }, type := 23, pos := "more.go:36", after := _, guard := some (16, true) }) rfl (fun K1021 hK1021 => ?_) AllReadyH.nil)
      go_simp
      refine (carry_no v a true yv ya _).mono ?_
      rintro e v12 ⟨rfl, hb⟩
      have PB := hid (PB.out.belowAll hb)
      have TB := hid (TB.out.belowAll hb)
      have UB := hid (UB.out.belowAll hb)
      have XB := hid (XB.out.belowAll hb)
      have YB := hid (YB.out.belowAll hb)
      have HB := hid (HB.out.trans (hb.mono HB.out.size))
      have hsv12 : v11.heap.size ≤ v12.heap.size := by first | exact hb.size | omega
      clear hb
      refine hK1021.out _ _ (⟨PB.out, TB.out, XB.out, YB.out⟩) (fun hHeld1021 => ?_)
      clear hK1021 K1021
      try simp only [Act.put, List.setIfInBounds_toArray, List.set_cons_zero, List.set_cons_succ]
      refine wpAnyH_take (i := 21) (oi := { dst := some 38, op := Op.binOp BinOp.eql 23 (Operand.tmp 36) (Operand.tmp 37) 23, type := 4, pos := "more.go:36", after := _, guard := some (16, true) }) (v := ?_) rfl (by kernel_rfl) (by kernel_rfl) (by kernel_rfl) (fun _ _ _ h => h) (Or.inl ⟨by rfl, ?_⟩) (by assumption) ?_
      rotate_left
      · (intro W hSw; (try dsimp only at hSw); obtain ⟨hs0S, hs1S, hs2S, hs3S⟩ := hSw; clear hs0S hs1S hs2S hs3S; go_simp; try with_reducible rfl)
      simp only [Act.put, List.setIfInBounds_toArray, List.set_cons_zero, List.set_cons_succ]
      refine wpAnyH_take (i := 22) (oi := { dst := some 39, op := Op.pick (Operand.tmp 33) (Operand.tmp 38) (Operand.const (Value.bool false)), type := 4, pos := "more.go:36", after := _, guard := none }) (v := ?_) rfl (by kernel_rfl) (by kernel_rfl) (by kernel_rfl) (fun _ _ _ h => h) (Or.inl ⟨by rfl, ?_⟩) (by assumption) ?_
      rotate_left
      · (intro w hSw; (try dsimp only at hSw); go_simp; try with_reducible rfl)
      simp only [Act.put, List.setIfInBounds_toArray, List.set_cons_zero, List.set_cons_succ]
      refine wpAnyH_take (i := 23) (oi := { dst := some 40, op := Op.move (Operand.tmp 39), type := 4, pos := "more.go:36", after := _, guard := none }) (v := ?_) rfl (by kernel_rfl) (by kernel_rfl) (by kernel_rfl) (fun _ _ _ h => h) (Or.inl ⟨by rfl, ?_⟩) (by assumption) ?_
      rotate_left
      · (intro w hSw; (try dsimp only at hSw); go_simp; try with_reducible rfl)
      simp only [Act.put, List.setIfInBounds_toArray, List.set_cons_zero, List.set_cons_succ]
      refine wpAnyH_take (i := 24) (oi := { dst := some 41, op := Op.fieldAddr 23 (Operand.tmp 3) 0, type := 0, pos := "more.go:36", after := _, guard := some (23, true) }) (v := ?_) rfl (by kernel_rfl) (by kernel_rfl) (by kernel_rfl) (fun _ _ _ h => h) (Or.inl ⟨by rfl, ?_⟩) (by assumption) ?_
      rotate_left
      · (intro w hSw; (try dsimp only at hSw); go_simp; try with_reducible rfl)
      simp only [Act.put, List.setIfInBounds_toArray, List.set_cons_zero, List.set_cons_succ]
      refine wpAnyH_take (i := 25) (oi := { dst := some 42, op := Op.load 4 (Operand.tmp 41), type := 4, pos := "more.go:36", after := _, guard := some (23, true) }) (v := ?_) rfl (by kernel_rfl) (by kernel_rfl) (by kernel_rfl) (fun _ _ _ h => h) (Or.inl ⟨by rfl, ?_⟩) (by assumption) ?_
      rotate_left
      · (intro W hSw; (try dsimp only at hSw); obtain ⟨hs0S, hs1S, hs2S, hs3S⟩ := hSw; have c0_0 : W.cell? ⟨w.heap.size, 0, none⟩ = some (.bool false) := (BoxAt.cell hs0S 0).trans rfl; have c0_1 : W.cell? ⟨w.heap.size, 1, none⟩ = some (.int .i64 (v)) := (BoxAt.cell hs0S 1).trans rfl; have c0_2 : W.cell? ⟨w.heap.size, 2, none⟩ = some (.int .i64 (a)) := (BoxAt.cell hs0S 2).trans rfl; have c1_0 : W.cell? ⟨v1.heap.size, 0, none⟩ = some (.bool true) := (BoxAt.cell hs1S 0).trans rfl; have c1_1 : W.cell? ⟨v1.heap.size, 1, none⟩ = some (.int .i64 (yv)) := (BoxAt.cell hs1S 1).trans rfl; have c1_2 : W.cell? ⟨v1.heap.size, 2, none⟩ = some (.int .i64 (ya)) := (BoxAt.cell hs1S 2).trans rfl; have c2_0 : W.cell? ⟨v5.heap.size, 0, none⟩ = some (.bool true) := (BoxAt.cell hs2S 0).trans rfl; have c2_1 : W.cell? ⟨v5.heap.size, 1, none⟩ = some (.int .i64 (yv)) := (BoxAt.cell hs2S 1).trans rfl; have c2_2 : W.cell? ⟨v5.heap.size, 2, none⟩ = some (.int .i64 (ya)) := (BoxAt.cell hs2S 2).trans rfl; have c3_0 : W.cell? ⟨v8.heap.size, 0, none⟩ = some (.bool true) := (BoxAt.cell hs3S 0).trans rfl; have c3_1 : W.cell? ⟨v8.heap.size, 1, none⟩ = some (.int .i64 (yv)) := (BoxAt.cell hs3S 1).trans rfl; have c3_2 : W.cell? ⟨v8.heap.size, 2, none⟩ = some (.int .i64 (ya)) := (BoxAt.cell hs3S 2).trans rfl; clear hs0S hs1S hs2S hs3S; go_simp; try with_reducible rfl)
      simp only [Act.put, List.setIfInBounds_toArray, List.set_cons_zero, List.set_cons_succ]
      refine wpAnyH_take (i := 26) (oi := { dst := some 43, op := Op.move (Operand.tmp 42), type := 4, pos := "more.go:36", after := _, guard := some (23, true) }) (v := ?_) rfl (by kernel_rfl) (by kernel_rfl) (by kernel_rfl) (fun _ _ _ h => h) (Or.inl ⟨by rfl, ?_⟩) (by assumption) ?_
      rotate_left
      · (intro w hSw; (try dsimp only at hSw); go_simp; try with_reducible rfl)
      simp only [Act.put, List.setIfInBounds_toArray, List.set_cons_zero, List.set_cons_succ]
      refine wpAnyH_take (i := 27) (oi := { dst := some 44, op := Op.load 23 (Operand.tmp 8), type := 23, pos := "more.go:36", after := _, guard := some (26, false) }) (v := ?_) rfl (by kernel_rfl) (by kernel_rfl) (by kernel_rfl) (fun _ _ _ h => h) (Or.inl ⟨by rfl, ?_⟩) (by assumption) ?_
      rotate_left
      · (intro W hSw; (try dsimp only at hSw); obtain ⟨hs0S, hs1S, hs2S, hs3S⟩ := hSw; have c0_0 : W.cell? ⟨w.heap.size, 0, none⟩ = some (.bool false) := (BoxAt.cell hs0S 0).trans rfl; have c0_1 : W.cell? ⟨w.heap.size, 1, none⟩ = some (.int .i64 (v)) := (BoxAt.cell hs0S 1).trans rfl; have c0_2 : W.cell? ⟨w.heap.size, 2, none⟩ = some (.int .i64 (a)) := (BoxAt.cell hs0S 2).trans rfl; have c1_0 : W.cell? ⟨v1.heap.size, 0, none⟩ = some (.bool true) := (BoxAt.cell hs1S 0).trans rfl; have c1_1 : W.cell? ⟨v1.heap.size, 1, none⟩ = some (.int .i64 (yv)) := (BoxAt.cell hs1S 1).trans rfl; have c1_2 : W.cell? ⟨v1.heap.size, 2, none⟩ = some (.int .i64 (ya)) := (BoxAt.cell hs1S 2).trans rfl; have c2_0 : W.cell? ⟨v5.heap.size, 0, none⟩ = some (.bool true) := (BoxAt.cell hs2S 0).trans rfl; have c2_1 : W.cell? ⟨v5.heap.size, 1, none⟩ = some (.int .i64 (yv)) := (BoxAt.cell hs2S 1).trans rfl; have c2_2 : W.cell? ⟨v5.heap.size, 2, none⟩ = some (.int .i64 (ya)) := (BoxAt.cell hs2S 2).trans rfl; have c3_0 : W.cell? ⟨v8.heap.size, 0, none⟩ = some (.bool true) := (BoxAt.cell hs3S 0).trans rfl; have c3_1 : W.cell? ⟨v8.heap.size, 1, none⟩ = some (.int .i64 (yv)) := (BoxAt.cell hs3S 1).trans rfl; have c3_2 : W.cell? ⟨v8.heap.size, 2, none⟩ = some (.int .i64 (ya)) := (BoxAt.cell hs3S 2).trans rfl; clear hs0S hs1S hs2S hs3S; go_simp; try with_reducible rfl)
      simp only [Act.put, List.setIfInBounds_toArray, List.set_cons_zero, List.set_cons_succ]
      refine wpAnyH_take (i := 28) (oi := { dst := some 45, op := Op.load 23 (Operand.tmp 4), type := 23, pos := "more.go:36", after := _, guard := some (26, false) }) (v := ?_) rfl (by kernel_rfl) (by kernel_rfl) (by kernel_rfl) (fun _ _ _ h => h) (Or.inl ⟨by rfl, ?_⟩) (by assumption) ?_
      rotate_left
      · (intro W hSw; (try dsimp only at hSw); obtain ⟨hs0S, hs1S, hs2S, hs3S⟩ := hSw; have c0_0 : W.cell? ⟨w.heap.size, 0, none⟩ = some (.bool false) := (BoxAt.cell hs0S 0).trans rfl; have c0_1 : W.cell? ⟨w.heap.size, 1, none⟩ = some (.int .i64 (v)) := (BoxAt.cell hs0S 1).trans rfl; have c0_2 : W.cell? ⟨w.heap.size, 2, none⟩ = some (.int .i64 (a)) := (BoxAt.cell hs0S 2).trans rfl; have c1_0 : W.cell? ⟨v1.heap.size, 0, none⟩ = some (.bool true) := (BoxAt.cell hs1S 0).trans rfl; have c1_1 : W.cell? ⟨v1.heap.size, 1, none⟩ = some (.int .i64 (yv)) := (BoxAt.cell hs1S 1).trans rfl; have c1_2 : W.cell? ⟨v1.heap.size, 2, none⟩ = some (.int .i64 (ya)) := (BoxAt.cell hs1S 2).trans rfl; have c2_0 : W.cell? ⟨v5.heap.size, 0, none⟩ = some (.bool true) := (BoxAt.cell hs2S 0).trans rfl; have c2_1 : W.cell? ⟨v5.heap.size, 1, none⟩ = some (.int .i64 (yv)) := (BoxAt.cell hs2S 1).trans rfl; have c2_2 : W.cell? ⟨v5.heap.size, 2, none⟩ = some (.int .i64 (ya)) := (BoxAt.cell hs2S 2).trans rfl; have c3_0 : W.cell? ⟨v8.heap.size, 0, none⟩ = some (.bool true) := (BoxAt.cell hs3S 0).trans rfl; have c3_1 : W.cell? ⟨v8.heap.size, 1, none⟩ = some (.int .i64 (yv)) := (BoxAt.cell hs3S 1).trans rfl; have c3_2 : W.cell? ⟨v8.heap.size, 2, none⟩ = some (.int .i64 (ya)) := (BoxAt.cell hs3S 2).trans rfl; clear hs0S hs1S hs2S hs3S; go_simp; try with_reducible rfl)
      simp only [Act.put, List.setIfInBounds_toArray, List.set_cons_zero, List.set_cons_succ]
      refine wpAnyH_take (i := 29) (oi := { dst := some 46, op := Op.binOp BinOp.eql 23 (Operand.tmp 44) (Operand.tmp 45) 23, type := 4, pos := "more.go:36", after := _, guard := some (26, false) }) (v := ?_) rfl (by kernel_rfl) (by kernel_rfl) (by kernel_rfl) (fun _ _ _ h => h) (Or.inl ⟨by rfl, ?_⟩) (by assumption) ?_
      rotate_left
      · (intro W hSw; (try dsimp only at hSw); obtain ⟨hs0S, hs1S, hs2S, hs3S⟩ := hSw; clear hs0S hs1S hs2S hs3S; go_simp; try with_reducible rfl)
      simp only [Act.put, List.setIfInBounds_toArray, List.set_cons_zero, List.set_cons_succ]
      refine wpAnyH_take (i := 30) (oi := { dst := some 47, op := Op.pick (Operand.tmp 43) (Operand.const (Value.bool true)) (Operand.tmp 46), type := 4, pos := "more.go:36", after := _, guard := some (23, true) }) (v := ?_) rfl (by kernel_rfl) (by kernel_rfl) (by kernel_rfl) (fun _ _ _ h => h) (Or.inl ⟨by rfl, ?_⟩) (by assumption) ?_
      rotate_left
      · (intro w hSw; (try dsimp only at hSw); go_simp; try with_reducible rfl)
      simp only [Act.put, List.setIfInBounds_toArray, List.set_cons_zero, List.set_cons_succ]
      refine wpAnyH_take (i := 31) (oi := { dst := some 48, op := Op.pick (Operand.tmp 40) (Operand.tmp 47) (Operand.const (Value.bool false)), type := 4, pos := "more.go:36", after := _, guard := none }) (v := ?_) rfl (by kernel_rfl) (by kernel_rfl) (by kernel_rfl) (fun _ _ _ h => h) (Or.inl ⟨by rfl, ?_⟩) (by assumption) ?_
      rotate_left
      · (intro w hSw; (try dsimp only at hSw); go_simp; try with_reducible rfl)
      simp only [Act.put, List.setIfInBounds_toArray, List.set_cons_zero, List.set_cons_succ]
      refine wpAnyH_take (i := 32) (oi := { dst := some 6, op := Op.assign (Operand.tmp 48), type := 4, pos := "more.go:36", after := _, guard := none }) (v := ?_) rfl (by kernel_rfl) (by kernel_rfl) (by kernel_rfl) (fun _ _ _ h => h) (Or.inl ⟨by rfl, ?_⟩) (by assumption) ?_
      rotate_left
      · (intro w hSw; (try dsimp only at hSw); go_simp; try with_reducible rfl)
      simp only [Act.put, List.setIfInBounds_toArray, List.set_cons_zero, List.set_cons_succ]
      refine wpAnyH_done (by kernel_rfl) ?_ _
      clear hHeld hHeld1021
      go_wp2
      go_ret
      exact ⟨rfl, HB.out⟩
  · have FL1 := hid trivial
    have FL2 := hid trivial
    have FL3 := hid trivial
    go_wp2_with (first
      | (have hfl := FL1.out
         refine wpList_box rfl 23 (.tmp 0) rfl #[.bool true, .int .i64 (v), .int .i64 (a)] rfl ?_
         intro v1 b h z
         have PB := hid (show BoxAt v1 w.heap.size 23 #[.bool true, .int .i64 (v), .int .i64 (a)] from b)
         have HB := hid (HB.out.trans (h.mono HB.out.size))
         have hsv1 : w.heap.size + 1 ≤ v1.heap.size := by first | exact h.size | omega
         clear b h z hfl FL1)
      | (have hfl := FL2.out
         refine wpList_box rfl 23 (.tmp 1) rfl #[.bool yk, .int .i64 (yv), .int .i64 (ya)] rfl ?_
         intro v2 b h z
         have TB := hid (show BoxAt v2 v1.heap.size 23 #[.bool yk, .int .i64 (yv), .int .i64 (ya)] from b)
         have PB := hid (PB.out.belowAll h)
         have HB := hid (HB.out.trans (h.mono HB.out.size))
         have hsv2 : v1.heap.size + 1 ≤ v2.heap.size := by first | exact h.size | omega
         clear b h z hfl FL2)
      | (have hfl := FL3.out
         refine wpList_box rfl 23 (.tmp 2) rfl #[.bool uk, .int .i64 (uv), .int .i64 (ua)] rfl ?_
         intro v3 b h z
         have UB := hid (show BoxAt v3 v2.heap.size 23 #[.bool uk, .int .i64 (uv), .int .i64 (ua)] from b)
         have PB := hid (PB.out.belowAll h)
         have TB := hid (TB.out.belowAll h)
         have HB := hid (HB.out.trans (h.mono HB.out.size))
         have hsv3 : v2.heap.size + 1 ≤ v3.heap.size := by first | exact h.size | omega
         clear b h z hfl FL3)
      | fail)
    refine (spawake_any _).mono ?_
    rintro e v4 ⟨rfl, hb⟩
    have PB := hid (PB.out.belowAll hb)
    have TB := hid (TB.out.belowAll hb)
    have UB := hid (UB.out.belowAll hb)
    have HB := hid (HB.out.trans (hb.mono HB.out.size))
    have hsv4 : v3.heap.size ≤ v4.heap.size := by first | exact hb.size | omega
    clear hb
    go_wp2_with (first
      | (refine wpList_load_box rfl 23 _ rfl (w.heap.size) rfl _ _ PB.out _ Try.underlying23 Try.infoSp ?_)
      | (refine wpList_load_box rfl 23 _ rfl (v1.heap.size) rfl _ _ TB.out _ Try.underlying23 Try.infoSp ?_)
      | fail)
    refine (carry_yes v a yk yv ya _).mono ?_
    rintro e v5 ⟨rfl, hb⟩
    have PB := hid (PB.out.belowAll hb)
    have TB := hid (TB.out.belowAll hb)
    have UB := hid (UB.out.belowAll hb)
    have HB := hid (HB.out.trans (hb.mono HB.out.size))
    have hsv5 : v4.heap.size ≤ v5.heap.size := by first | exact hb.size | omega
    clear hb
    have FL4 := hid trivial
    have FL5 := hid trivial
    go_wp2_with (first
      | (have hfl := FL4.out
         refine wpList_new rfl 23 rfl _ Try.zeroSp ?_
         intro v6 b h z
         have XB := hid (show BoxAt v6 v5.heap.size 23 #[.bool false, .int .i64 0, .int .i64 0] from b)
         have PB := hid (PB.out.belowAll h)
         have TB := hid (TB.out.belowAll h)
         have UB := hid (UB.out.belowAll h)
         have HB := hid (HB.out.trans (h.mono HB.out.size))
         have hsv6 : v5.heap.size + 1 ≤ v6.heap.size := by first | exact h.size | omega
         clear b h z hfl FL4)
      | (have hfl := FL5.out
         refine wpList_store_whole rfl 23 _ _ rfl rfl (v5.heap.size) rfl [.bool true, .int .i64 (v), .int .i64 (a)] rfl _ _ XB.out rfl Try.infoSp (by simp [Value.oneCell']) ?_
         intro v7 b g z
         have hsv7 : v6.heap.size ≤ v7.heap.size := by omega
         have XB := hid (show BoxAt v7 (v5.heap.size) 23 #[.bool true, .int .i64 (v), .int .i64 (a)] from b)
         have PB := hid (PB.out.grown g (fun e => by have := Option.some.inj e; omega))
         have TB := hid (TB.out.grown g (fun e => by have := Option.some.inj e; omega))
         have UB := hid (UB.out.grown g (fun e => by have := Option.some.inj e; omega))
         have HB := hid (HB.out.trans (grown_below g (by omega) (by omega)))
         clear b g z hfl FL5)
      | (refine wpList_load_box rfl 23 _ rfl (v5.heap.size) rfl _ _ XB.out _ Try.underlying23 Try.infoSp ?_)
      | (refine wpList_load_box rfl 23 _ rfl (v2.heap.size) rfl _ _ UB.out _ Try.underlying23 Try.infoSp ?_)
      | fail)
    refine (carry_yes v a uk uv ua _).mono ?_
    rintro e v8 ⟨rfl, hb⟩
    have PB := hid (PB.out.belowAll hb)
    have TB := hid (TB.out.belowAll hb)
    have UB := hid (UB.out.belowAll hb)
    have XB := hid (XB.out.belowAll hb)
    have HB := hid (HB.out.trans (hb.mono HB.out.size))
    have hsv8 : v7.heap.size ≤ v8.heap.size := by first | exact hb.size | omega
    clear hb
    have FL6 := hid trivial
    have FL7 := hid trivial
    go_wp2_with (first
      | (have hfl := FL6.out
         refine wpList_new rfl 23 rfl _ Try.zeroSp ?_
         intro v9 b h z
         have YB := hid (show BoxAt v9 v8.heap.size 23 #[.bool false, .int .i64 0, .int .i64 0] from b)
         have PB := hid (PB.out.belowAll h)
         have TB := hid (TB.out.belowAll h)
         have UB := hid (UB.out.belowAll h)
         have XB := hid (XB.out.belowAll h)
         have HB := hid (HB.out.trans (h.mono HB.out.size))
         have hsv9 : v8.heap.size + 1 ≤ v9.heap.size := by first | exact h.size | omega
         clear b h z hfl FL6)
      | (have hfl := FL7.out
         refine wpList_store_whole rfl 23 _ _ rfl rfl (v8.heap.size) rfl [.bool true, .int .i64 (v), .int .i64 (a)] rfl _ _ YB.out rfl Try.infoSp (by simp [Value.oneCell']) ?_
         intro v10 b g z
         have hsv10 : v9.heap.size ≤ v10.heap.size := by omega
         have YB := hid (show BoxAt v10 (v8.heap.size) 23 #[.bool true, .int .i64 (v), .int .i64 (a)] from b)
         have PB := hid (PB.out.grown g (fun e => by have := Option.some.inj e; omega))
         have TB := hid (TB.out.grown g (fun e => by have := Option.some.inj e; omega))
         have UB := hid (UB.out.grown g (fun e => by have := Option.some.inj e; omega))
         have XB := hid (XB.out.grown g (fun e => by have := Option.some.inj e; omega))
         have HB := hid (HB.out.trans (grown_below g (by omega) (by omega)))
         clear b g z hfl FL7
         refine Hid.out ?_)
      | fail)
    refine hid ?_
    go_wp2_with fail
    have PB := hid (BoxAt.drew PB.out)
    have TB := hid (BoxAt.drew TB.out)
    have UB := hid (BoxAt.drew UB.out)
    have XB := hid (BoxAt.drew XB.out)
    have YB := hid (BoxAt.drew YB.out)
    have HB := hid (HB.out.drew)
    have hsv11 : v10.heap.size ≤ v10.drew.heap.size := Nat.le_refl _
    refine wp_region_held_drew (S := (fun w' : World => BoxAt w' (w.heap.size) 23 #[.bool true, .int .i64 (v), .int .i64 (a)] ∧ BoxAt w' (v1.heap.size) 23 #[.bool yk, .int .i64 (yv), .int .i64 (ya)] ∧ BoxAt w' (v5.heap.size) 23 #[.bool true, .int .i64 (v), .int .i64 (a)] ∧ BoxAt w' (v8.heap.size) 23 #[.bool true, .int .i64 (v), .int .i64 (a)])) (by kernel_rfl) (⟨PB.out, TB.out, XB.out, YB.out⟩) (fun hHeld => ?_)
    generalize v10.drew = v11 at *
    refine wpAnyH_take (i := 0) (oi := { dst := some 17, op := Op.move (Operand.tmp 7), type := 4, pos := "more.go:36", after := _, guard := none }) (v := ?_) rfl (by kernel_rfl) (by kernel_rfl) (by kernel_rfl) (fun _ _ _ h => h) (Or.inl ⟨by rfl, ?_⟩) (by assumption) ?_
    rotate_left
    · (intro w hSw; (try dsimp only at hSw); go_simp; try with_reducible rfl)
    simp only [Act.put, List.setIfInBounds_toArray, List.set_cons_zero, List.set_cons_succ]
    refine wpAnyH_take (i := 1) (oi := { dst := some 18, op := Op.move (Operand.tmp 17), type := 4, pos := "more.go:36", after := _, guard := none }) (v := ?_) rfl (by kernel_rfl) (by kernel_rfl) (by kernel_rfl) (fun _ _ _ h => h) (Or.inl ⟨by rfl, ?_⟩) (by assumption) ?_
    rotate_left
    · (intro w hSw; (try dsimp only at hSw); go_simp; try with_reducible rfl)
    simp only [Act.put, List.setIfInBounds_toArray, List.set_cons_zero, List.set_cons_succ]
    refine wpAnyH_take (i := 2) (oi := { dst := some 19, op := Op.fieldAddr 23 (Operand.tmp 3) 0, type := 0, pos := "more.go:36", after := _, guard := some (1, true) }) (v := ?_) rfl (by kernel_rfl) (by kernel_rfl) (by kernel_rfl) (fun _ _ _ h => h) (Or.inl ⟨by rfl, ?_⟩) (by assumption) ?_
    rotate_left
    · (intro w hSw; (try dsimp only at hSw); go_simp; try with_reducible rfl)
    simp only [Act.put, List.setIfInBounds_toArray, List.set_cons_zero, List.set_cons_succ]
    refine wpAnyH_take (i := 3) (oi := { dst := some 20, op := Op.load 4 (Operand.tmp 19), type := 4, pos := "more.go:36", after := _, guard := some (1, true) }) (v := ?_) rfl (by kernel_rfl) (by kernel_rfl) (by kernel_rfl) (fun _ _ _ h => h) (Or.inl ⟨by rfl, ?_⟩) (by assumption) ?_
    rotate_left
    · (intro W hSw; (try dsimp only at hSw); obtain ⟨hs0S, hs1S, hs2S, hs3S⟩ := hSw; have c0_0 : W.cell? ⟨w.heap.size, 0, none⟩ = some (.bool true) := (BoxAt.cell hs0S 0).trans rfl; have c0_1 : W.cell? ⟨w.heap.size, 1, none⟩ = some (.int .i64 (v)) := (BoxAt.cell hs0S 1).trans rfl; have c0_2 : W.cell? ⟨w.heap.size, 2, none⟩ = some (.int .i64 (a)) := (BoxAt.cell hs0S 2).trans rfl; have c1_0 : W.cell? ⟨v1.heap.size, 0, none⟩ = some (.bool yk) := (BoxAt.cell hs1S 0).trans rfl; have c1_1 : W.cell? ⟨v1.heap.size, 1, none⟩ = some (.int .i64 (yv)) := (BoxAt.cell hs1S 1).trans rfl; have c1_2 : W.cell? ⟨v1.heap.size, 2, none⟩ = some (.int .i64 (ya)) := (BoxAt.cell hs1S 2).trans rfl; have c2_0 : W.cell? ⟨v5.heap.size, 0, none⟩ = some (.bool true) := (BoxAt.cell hs2S 0).trans rfl; have c2_1 : W.cell? ⟨v5.heap.size, 1, none⟩ = some (.int .i64 (v)) := (BoxAt.cell hs2S 1).trans rfl; have c2_2 : W.cell? ⟨v5.heap.size, 2, none⟩ = some (.int .i64 (a)) := (BoxAt.cell hs2S 2).trans rfl; have c3_0 : W.cell? ⟨v8.heap.size, 0, none⟩ = some (.bool true) := (BoxAt.cell hs3S 0).trans rfl; have c3_1 : W.cell? ⟨v8.heap.size, 1, none⟩ = some (.int .i64 (v)) := (BoxAt.cell hs3S 1).trans rfl; have c3_2 : W.cell? ⟨v8.heap.size, 2, none⟩ = some (.int .i64 (a)) := (BoxAt.cell hs3S 2).trans rfl; clear hs0S hs1S hs2S hs3S; go_simp; try with_reducible rfl)
    simp only [Act.put, List.setIfInBounds_toArray, List.set_cons_zero, List.set_cons_succ]
    refine wpAnyH_take (i := 4) (oi := { dst := some 21, op := Op.unOp UnOp.not 4 (Operand.tmp 20), type := 4, pos := "more.go:36", after := _, guard := some (1, true) }) (v := ?_) rfl (by kernel_rfl) (by kernel_rfl) (by kernel_rfl) (fun _ _ _ h => h) (Or.inl ⟨by rfl, ?_⟩) (by assumption) ?_
    rotate_left
    · (intro w hSw; (try dsimp only at hSw); go_simp; try with_reducible rfl)
    simp only [Act.put, List.setIfInBounds_toArray, List.set_cons_zero, List.set_cons_succ]
    refine wpAnyH_take (i := 5) (oi := { dst := some 22, op := Op.move (Operand.tmp 21), type := 4, pos := "more.go:36", after := _, guard := some (1, true) }) (v := ?_) rfl (by kernel_rfl) (by kernel_rfl) (by kernel_rfl) (fun _ _ _ h => h) (Or.inl ⟨by rfl, ?_⟩) (by assumption) ?_
    rotate_left
    · (intro w hSw; (try dsimp only at hSw); go_simp; try with_reducible rfl)
    simp only [Act.put, List.setIfInBounds_toArray, List.set_cons_zero, List.set_cons_succ]
    refine wpAnyH_take (i := 6) (oi := { dst := some 23, op := Op.load 23 (Operand.tmp 8), type := 23, pos := "more.go:36", after := _, guard := some (5, false) }) (v := ?_) rfl (by kernel_rfl) (by kernel_rfl) (by kernel_rfl) (fun _ _ _ h => h) (Or.inl ⟨by rfl, ?_⟩) (by assumption) ?_
    rotate_left
    · (intro W hSw; (try dsimp only at hSw); obtain ⟨hs0S, hs1S, hs2S, hs3S⟩ := hSw; have c0_0 : W.cell? ⟨w.heap.size, 0, none⟩ = some (.bool true) := (BoxAt.cell hs0S 0).trans rfl; have c0_1 : W.cell? ⟨w.heap.size, 1, none⟩ = some (.int .i64 (v)) := (BoxAt.cell hs0S 1).trans rfl; have c0_2 : W.cell? ⟨w.heap.size, 2, none⟩ = some (.int .i64 (a)) := (BoxAt.cell hs0S 2).trans rfl; have c1_0 : W.cell? ⟨v1.heap.size, 0, none⟩ = some (.bool yk) := (BoxAt.cell hs1S 0).trans rfl; have c1_1 : W.cell? ⟨v1.heap.size, 1, none⟩ = some (.int .i64 (yv)) := (BoxAt.cell hs1S 1).trans rfl; have c1_2 : W.cell? ⟨v1.heap.size, 2, none⟩ = some (.int .i64 (ya)) := (BoxAt.cell hs1S 2).trans rfl; have c2_0 : W.cell? ⟨v5.heap.size, 0, none⟩ = some (.bool true) := (BoxAt.cell hs2S 0).trans rfl; have c2_1 : W.cell? ⟨v5.heap.size, 1, none⟩ = some (.int .i64 (v)) := (BoxAt.cell hs2S 1).trans rfl; have c2_2 : W.cell? ⟨v5.heap.size, 2, none⟩ = some (.int .i64 (a)) := (BoxAt.cell hs2S 2).trans rfl; have c3_0 : W.cell? ⟨v8.heap.size, 0, none⟩ = some (.bool true) := (BoxAt.cell hs3S 0).trans rfl; have c3_1 : W.cell? ⟨v8.heap.size, 1, none⟩ = some (.int .i64 (v)) := (BoxAt.cell hs3S 1).trans rfl; have c3_2 : W.cell? ⟨v8.heap.size, 2, none⟩ = some (.int .i64 (a)) := (BoxAt.cell hs3S 2).trans rfl; clear hs0S hs1S hs2S hs3S; go_simp; try with_reducible rfl)
    simp only [Act.put, List.setIfInBounds_toArray, List.set_cons_zero, List.set_cons_succ]
    refine wpAnyH_take (i := 7) (oi := { dst := some 24, op := Op.load 23 (Operand.tmp 3), type := 23, pos := "more.go:36", after := _, guard := some (5, false) }) (v := ?_) rfl (by kernel_rfl) (by kernel_rfl) (by kernel_rfl) (fun _ _ _ h => h) (Or.inl ⟨by rfl, ?_⟩) (by assumption) ?_
    rotate_left
    · (intro W hSw; (try dsimp only at hSw); obtain ⟨hs0S, hs1S, hs2S, hs3S⟩ := hSw; have c0_0 : W.cell? ⟨w.heap.size, 0, none⟩ = some (.bool true) := (BoxAt.cell hs0S 0).trans rfl; have c0_1 : W.cell? ⟨w.heap.size, 1, none⟩ = some (.int .i64 (v)) := (BoxAt.cell hs0S 1).trans rfl; have c0_2 : W.cell? ⟨w.heap.size, 2, none⟩ = some (.int .i64 (a)) := (BoxAt.cell hs0S 2).trans rfl; have c1_0 : W.cell? ⟨v1.heap.size, 0, none⟩ = some (.bool yk) := (BoxAt.cell hs1S 0).trans rfl; have c1_1 : W.cell? ⟨v1.heap.size, 1, none⟩ = some (.int .i64 (yv)) := (BoxAt.cell hs1S 1).trans rfl; have c1_2 : W.cell? ⟨v1.heap.size, 2, none⟩ = some (.int .i64 (ya)) := (BoxAt.cell hs1S 2).trans rfl; have c2_0 : W.cell? ⟨v5.heap.size, 0, none⟩ = some (.bool true) := (BoxAt.cell hs2S 0).trans rfl; have c2_1 : W.cell? ⟨v5.heap.size, 1, none⟩ = some (.int .i64 (v)) := (BoxAt.cell hs2S 1).trans rfl; have c2_2 : W.cell? ⟨v5.heap.size, 2, none⟩ = some (.int .i64 (a)) := (BoxAt.cell hs2S 2).trans rfl; have c3_0 : W.cell? ⟨v8.heap.size, 0, none⟩ = some (.bool true) := (BoxAt.cell hs3S 0).trans rfl; have c3_1 : W.cell? ⟨v8.heap.size, 1, none⟩ = some (.int .i64 (v)) := (BoxAt.cell hs3S 1).trans rfl; have c3_2 : W.cell? ⟨v8.heap.size, 2, none⟩ = some (.int .i64 (a)) := (BoxAt.cell hs3S 2).trans rfl; clear hs0S hs1S hs2S hs3S; go_simp; try with_reducible rfl)
    simp only [Act.put, List.setIfInBounds_toArray, List.set_cons_zero, List.set_cons_succ]
    refine wpAnyH_take (i := 8) (oi := { dst := some 25, op := Op.binOp BinOp.eql 23 (Operand.tmp 23) (Operand.tmp 24) 23, type := 4, pos := "more.go:36", after := _, guard := some (5, false) }) (v := ?_) rfl (by kernel_rfl) (by kernel_rfl) (by kernel_rfl) (fun _ _ _ h => h) (Or.inl ⟨by rfl, ?_⟩) (by assumption) ?_
    rotate_left
    · (intro W hSw; (try dsimp only at hSw); obtain ⟨hs0S, hs1S, hs2S, hs3S⟩ := hSw; clear hs0S hs1S hs2S hs3S; go_simp; try with_reducible rfl)
    simp only [Act.put, List.setIfInBounds_toArray, List.set_cons_zero, List.set_cons_succ]
    refine wpAnyH_take (i := 9) (oi := { dst := some 26, op := Op.move (Operand.tmp 25), type := 4, pos := "more.go:36", after := _, guard := some (5, false) }) (v := ?_) rfl (by kernel_rfl) (by kernel_rfl) (by kernel_rfl) (fun _ _ _ h => h) (Or.inl ⟨by rfl, ?_⟩) (by assumption) ?_
    rotate_left
    · (intro w hSw; (try dsimp only at hSw); go_simp; try with_reducible rfl)
    simp only [Act.put, List.setIfInBounds_toArray, List.set_cons_zero, List.set_cons_succ]
    refine wpAnyH_take (i := 10) (oi := { dst := some 27, op := Op.load 23 (Operand.tmp 9), type := 23, pos := "more.go:36", after := _, guard := some (9, true) }) (v := ?_) rfl (by kernel_rfl) (by kernel_rfl) (by kernel_rfl) (fun _ _ _ h => h) (Or.inl ⟨by rfl, ?_⟩) (by assumption) ?_
    rotate_left
    · (intro W hSw; (try dsimp only at hSw); obtain ⟨hs0S, hs1S, hs2S, hs3S⟩ := hSw; have c0_0 : W.cell? ⟨w.heap.size, 0, none⟩ = some (.bool true) := (BoxAt.cell hs0S 0).trans rfl; have c0_1 : W.cell? ⟨w.heap.size, 1, none⟩ = some (.int .i64 (v)) := (BoxAt.cell hs0S 1).trans rfl; have c0_2 : W.cell? ⟨w.heap.size, 2, none⟩ = some (.int .i64 (a)) := (BoxAt.cell hs0S 2).trans rfl; have c1_0 : W.cell? ⟨v1.heap.size, 0, none⟩ = some (.bool yk) := (BoxAt.cell hs1S 0).trans rfl; have c1_1 : W.cell? ⟨v1.heap.size, 1, none⟩ = some (.int .i64 (yv)) := (BoxAt.cell hs1S 1).trans rfl; have c1_2 : W.cell? ⟨v1.heap.size, 2, none⟩ = some (.int .i64 (ya)) := (BoxAt.cell hs1S 2).trans rfl; have c2_0 : W.cell? ⟨v5.heap.size, 0, none⟩ = some (.bool true) := (BoxAt.cell hs2S 0).trans rfl; have c2_1 : W.cell? ⟨v5.heap.size, 1, none⟩ = some (.int .i64 (v)) := (BoxAt.cell hs2S 1).trans rfl; have c2_2 : W.cell? ⟨v5.heap.size, 2, none⟩ = some (.int .i64 (a)) := (BoxAt.cell hs2S 2).trans rfl; have c3_0 : W.cell? ⟨v8.heap.size, 0, none⟩ = some (.bool true) := (BoxAt.cell hs3S 0).trans rfl; have c3_1 : W.cell? ⟨v8.heap.size, 1, none⟩ = some (.int .i64 (v)) := (BoxAt.cell hs3S 1).trans rfl; have c3_2 : W.cell? ⟨v8.heap.size, 2, none⟩ = some (.int .i64 (a)) := (BoxAt.cell hs3S 2).trans rfl; clear hs0S hs1S hs2S hs3S; go_simp; try with_reducible rfl)
    simp only [Act.put, List.setIfInBounds_toArray, List.set_cons_zero, List.set_cons_succ]
    refine wpAnyH_take (i := 11) (oi := { dst := some 28, op := Op.load 23 (Operand.tmp 3), type := 23, pos := "more.go:36", after := _, guard := some (9, true) }) (v := ?_) rfl (by kernel_rfl) (by kernel_rfl) (by kernel_rfl) (fun _ _ _ h => h) (Or.inl ⟨by rfl, ?_⟩) (by assumption) ?_
    rotate_left
    · (intro W hSw; (try dsimp only at hSw); obtain ⟨hs0S, hs1S, hs2S, hs3S⟩ := hSw; have c0_0 : W.cell? ⟨w.heap.size, 0, none⟩ = some (.bool true) := (BoxAt.cell hs0S 0).trans rfl; have c0_1 : W.cell? ⟨w.heap.size, 1, none⟩ = some (.int .i64 (v)) := (BoxAt.cell hs0S 1).trans rfl; have c0_2 : W.cell? ⟨w.heap.size, 2, none⟩ = some (.int .i64 (a)) := (BoxAt.cell hs0S 2).trans rfl; have c1_0 : W.cell? ⟨v1.heap.size, 0, none⟩ = some (.bool yk) := (BoxAt.cell hs1S 0).trans rfl; have c1_1 : W.cell? ⟨v1.heap.size, 1, none⟩ = some (.int .i64 (yv)) := (BoxAt.cell hs1S 1).trans rfl; have c1_2 : W.cell? ⟨v1.heap.size, 2, none⟩ = some (.int .i64 (ya)) := (BoxAt.cell hs1S 2).trans rfl; have c2_0 : W.cell? ⟨v5.heap.size, 0, none⟩ = some (.bool true) := (BoxAt.cell hs2S 0).trans rfl; have c2_1 : W.cell? ⟨v5.heap.size, 1, none⟩ = some (.int .i64 (v)) := (BoxAt.cell hs2S 1).trans rfl; have c2_2 : W.cell? ⟨v5.heap.size, 2, none⟩ = some (.int .i64 (a)) := (BoxAt.cell hs2S 2).trans rfl; have c3_0 : W.cell? ⟨v8.heap.size, 0, none⟩ = some (.bool true) := (BoxAt.cell hs3S 0).trans rfl; have c3_1 : W.cell? ⟨v8.heap.size, 1, none⟩ = some (.int .i64 (v)) := (BoxAt.cell hs3S 1).trans rfl; have c3_2 : W.cell? ⟨v8.heap.size, 2, none⟩ = some (.int .i64 (a)) := (BoxAt.cell hs3S 2).trans rfl; clear hs0S hs1S hs2S hs3S; go_simp; try with_reducible rfl)
    simp only [Act.put, List.setIfInBounds_toArray, List.set_cons_zero, List.set_cons_succ]
    refine wpAnyH_take (i := 12) (oi := { dst := some 29, op := Op.binOp BinOp.eql 23 (Operand.tmp 27) (Operand.tmp 28) 23, type := 4, pos := "more.go:36", after := _, guard := some (9, true) }) (v := ?_) rfl (by kernel_rfl) (by kernel_rfl) (by kernel_rfl) (fun _ _ _ h => h) (Or.inl ⟨by rfl, ?_⟩) (by assumption) ?_
    rotate_left
    · (intro W hSw; (try dsimp only at hSw); obtain ⟨hs0S, hs1S, hs2S, hs3S⟩ := hSw; clear hs0S hs1S hs2S hs3S; go_simp; try with_reducible rfl)
    simp only [Act.put, List.setIfInBounds_toArray, List.set_cons_zero, List.set_cons_succ]
    refine wpAnyH_take (i := 13) (oi := { dst := some 30, op := Op.pick (Operand.tmp 26) (Operand.tmp 29) (Operand.const (Value.bool false)), type := 4, pos := "more.go:36", after := _, guard := some (5, false) }) (v := ?_) rfl (by kernel_rfl) (by kernel_rfl) (by kernel_rfl) (fun _ _ _ h => h) (Or.inl ⟨by rfl, ?_⟩) (by assumption) ?_
    rotate_left
    · (intro w hSw; (try dsimp only at hSw); go_simp; try with_reducible rfl)
    simp only [Act.put, List.setIfInBounds_toArray, List.set_cons_zero, List.set_cons_succ]
    refine wpAnyH_take (i := 14) (oi := { dst := some 31, op := Op.pick (Operand.tmp 22) (Operand.const (Value.bool true)) (Operand.tmp 30), type := 4, pos := "more.go:36", after := _, guard := some (1, true) }) (v := ?_) rfl (by kernel_rfl) (by kernel_rfl) (by kernel_rfl) (fun _ _ _ h => h) (Or.inl ⟨by rfl, ?_⟩) (by assumption) ?_
    rotate_left
    · (intro w hSw; (try dsimp only at hSw); go_simp; try with_reducible rfl)
    simp only [Act.put, List.setIfInBounds_toArray, List.set_cons_zero, List.set_cons_succ]
    refine wpAnyH_take (i := 15) (oi := { dst := some 32, op := Op.pick (Operand.tmp 18) (Operand.tmp 31) (Operand.const (Value.bool false)), type := 4, pos := "more.go:36", after := _, guard := none }) (v := ?_) rfl (by kernel_rfl) (by kernel_rfl) (by kernel_rfl) (fun _ _ _ h => h) (Or.inl ⟨by rfl, ?_⟩) (by assumption) ?_
    rotate_left
    · (intro w hSw; (try dsimp only at hSw); go_simp; try with_reducible rfl)
    simp only [Act.put, List.setIfInBounds_toArray, List.set_cons_zero, List.set_cons_succ]
    refine wpAnyH_take (i := 16) (oi := { dst := some 33, op := Op.move (Operand.tmp 32), type := 4, pos := "more.go:36", after := _, guard := none }) (v := ?_) rfl (by kernel_rfl) (by kernel_rfl) (by kernel_rfl) (fun _ _ _ h => h) (Or.inl ⟨by rfl, ?_⟩) (by assumption) ?_
    rotate_left
    · (intro w hSw; (try dsimp only at hSw); go_simp; try with_reducible rfl)
    simp only [Act.put, List.setIfInBounds_toArray, List.set_cons_zero, List.set_cons_succ]
    refine wpAnyH_take (i := 17) (oi := { dst := some 34, op := Op.load 23 (Operand.tmp 3), type := 23, pos := "more.go:36", after := _, guard := some (16, true) }) (v := ?_) rfl (by kernel_rfl) (by kernel_rfl) (by kernel_rfl) (fun _ _ _ h => h) (Or.inl ⟨by rfl, ?_⟩) (by assumption) ?_
    rotate_left
    · (intro W hSw; (try dsimp only at hSw); obtain ⟨hs0S, hs1S, hs2S, hs3S⟩ := hSw; have c0_0 : W.cell? ⟨w.heap.size, 0, none⟩ = some (.bool true) := (BoxAt.cell hs0S 0).trans rfl; have c0_1 : W.cell? ⟨w.heap.size, 1, none⟩ = some (.int .i64 (v)) := (BoxAt.cell hs0S 1).trans rfl; have c0_2 : W.cell? ⟨w.heap.size, 2, none⟩ = some (.int .i64 (a)) := (BoxAt.cell hs0S 2).trans rfl; have c1_0 : W.cell? ⟨v1.heap.size, 0, none⟩ = some (.bool yk) := (BoxAt.cell hs1S 0).trans rfl; have c1_1 : W.cell? ⟨v1.heap.size, 1, none⟩ = some (.int .i64 (yv)) := (BoxAt.cell hs1S 1).trans rfl; have c1_2 : W.cell? ⟨v1.heap.size, 2, none⟩ = some (.int .i64 (ya)) := (BoxAt.cell hs1S 2).trans rfl; have c2_0 : W.cell? ⟨v5.heap.size, 0, none⟩ = some (.bool true) := (BoxAt.cell hs2S 0).trans rfl; have c2_1 : W.cell? ⟨v5.heap.size, 1, none⟩ = some (.int .i64 (v)) := (BoxAt.cell hs2S 1).trans rfl; have c2_2 : W.cell? ⟨v5.heap.size, 2, none⟩ = some (.int .i64 (a)) := (BoxAt.cell hs2S 2).trans rfl; have c3_0 : W.cell? ⟨v8.heap.size, 0, none⟩ = some (.bool true) := (BoxAt.cell hs3S 0).trans rfl; have c3_1 : W.cell? ⟨v8.heap.size, 1, none⟩ = some (.int .i64 (v)) := (BoxAt.cell hs3S 1).trans rfl; have c3_2 : W.cell? ⟨v8.heap.size, 2, none⟩ = some (.int .i64 (a)) := (BoxAt.cell hs3S 2).trans rfl; clear hs0S hs1S hs2S hs3S; go_simp; try with_reducible rfl)
    simp only [Act.put, List.setIfInBounds_toArray, List.set_cons_zero, List.set_cons_succ]
    refine wpAnyH_take (i := 18) (oi := { dst := some 35, op := Op.load 23 (Operand.tmp 8), type := 23, pos := "more.go:36", after := _, guard := some (16, true) }) (v := ?_) rfl (by kernel_rfl) (by kernel_rfl) (by kernel_rfl) (fun _ _ _ h => h) (Or.inl ⟨by rfl, ?_⟩) (by assumption) ?_
    rotate_left
    · (intro W hSw; (try dsimp only at hSw); obtain ⟨hs0S, hs1S, hs2S, hs3S⟩ := hSw; have c0_0 : W.cell? ⟨w.heap.size, 0, none⟩ = some (.bool true) := (BoxAt.cell hs0S 0).trans rfl; have c0_1 : W.cell? ⟨w.heap.size, 1, none⟩ = some (.int .i64 (v)) := (BoxAt.cell hs0S 1).trans rfl; have c0_2 : W.cell? ⟨w.heap.size, 2, none⟩ = some (.int .i64 (a)) := (BoxAt.cell hs0S 2).trans rfl; have c1_0 : W.cell? ⟨v1.heap.size, 0, none⟩ = some (.bool yk) := (BoxAt.cell hs1S 0).trans rfl; have c1_1 : W.cell? ⟨v1.heap.size, 1, none⟩ = some (.int .i64 (yv)) := (BoxAt.cell hs1S 1).trans rfl; have c1_2 : W.cell? ⟨v1.heap.size, 2, none⟩ = some (.int .i64 (ya)) := (BoxAt.cell hs1S 2).trans rfl; have c2_0 : W.cell? ⟨v5.heap.size, 0, none⟩ = some (.bool true) := (BoxAt.cell hs2S 0).trans rfl; have c2_1 : W.cell? ⟨v5.heap.size, 1, none⟩ = some (.int .i64 (v)) := (BoxAt.cell hs2S 1).trans rfl; have c2_2 : W.cell? ⟨v5.heap.size, 2, none⟩ = some (.int .i64 (a)) := (BoxAt.cell hs2S 2).trans rfl; have c3_0 : W.cell? ⟨v8.heap.size, 0, none⟩ = some (.bool true) := (BoxAt.cell hs3S 0).trans rfl; have c3_1 : W.cell? ⟨v8.heap.size, 1, none⟩ = some (.int .i64 (v)) := (BoxAt.cell hs3S 1).trans rfl; have c3_2 : W.cell? ⟨v8.heap.size, 2, none⟩ = some (.int .i64 (a)) := (BoxAt.cell hs3S 2).trans rfl; clear hs0S hs1S hs2S hs3S; go_simp; try with_reducible rfl)
    simp only [Act.put, List.setIfInBounds_toArray, List.set_cons_zero, List.set_cons_succ]
    refine wpAnyH_take (i := 20) (oi := { dst := some 37, op := Op.load 23 (Operand.tmp 8), type := 23, pos := "more.go:36", after := _, guard := some (16, true) }) (v := ?_) rfl (by kernel_rfl) (by kernel_rfl) (by kernel_rfl) (fun _ _ _ h => h) (Or.inl ⟨by rfl, ?_⟩) (by assumption) ?_
    rotate_left
    · (intro W hSw; (try dsimp only at hSw); obtain ⟨hs0S, hs1S, hs2S, hs3S⟩ := hSw; have c0_0 : W.cell? ⟨w.heap.size, 0, none⟩ = some (.bool true) := (BoxAt.cell hs0S 0).trans rfl; have c0_1 : W.cell? ⟨w.heap.size, 1, none⟩ = some (.int .i64 (v)) := (BoxAt.cell hs0S 1).trans rfl; have c0_2 : W.cell? ⟨w.heap.size, 2, none⟩ = some (.int .i64 (a)) := (BoxAt.cell hs0S 2).trans rfl; have c1_0 : W.cell? ⟨v1.heap.size, 0, none⟩ = some (.bool yk) := (BoxAt.cell hs1S 0).trans rfl; have c1_1 : W.cell? ⟨v1.heap.size, 1, none⟩ = some (.int .i64 (yv)) := (BoxAt.cell hs1S 1).trans rfl; have c1_2 : W.cell? ⟨v1.heap.size, 2, none⟩ = some (.int .i64 (ya)) := (BoxAt.cell hs1S 2).trans rfl; have c2_0 : W.cell? ⟨v5.heap.size, 0, none⟩ = some (.bool true) := (BoxAt.cell hs2S 0).trans rfl; have c2_1 : W.cell? ⟨v5.heap.size, 1, none⟩ = some (.int .i64 (v)) := (BoxAt.cell hs2S 1).trans rfl; have c2_2 : W.cell? ⟨v5.heap.size, 2, none⟩ = some (.int .i64 (a)) := (BoxAt.cell hs2S 2).trans rfl; have c3_0 : W.cell? ⟨v8.heap.size, 0, none⟩ = some (.bool true) := (BoxAt.cell hs3S 0).trans rfl; have c3_1 : W.cell? ⟨v8.heap.size, 1, none⟩ = some (.int .i64 (v)) := (BoxAt.cell hs3S 1).trans rfl; have c3_2 : W.cell? ⟨v8.heap.size, 2, none⟩ = some (.int .i64 (a)) := (BoxAt.cell hs3S 2).trans rfl; clear hs0S hs1S hs2S hs3S; go_simp; try with_reducible rfl)
    simp only [Act.put, List.setIfInBounds_toArray, List.set_cons_zero, List.set_cons_succ]
    refine wpAnyH_ready (rs := [19]) (by kernel_rfl) (by simp) (AllReadyH.cons (o := { dst := some 36, op := Op.call { callee := Callee.value (Operand.func 13), args := #[Operand.tmp 34, Operand.tmp 35], argTypes := #[23, 23] }, type := 23, pos := "more.go:36", after := _, guard := some (16, true) }) rfl (fun K1021 hK1021 => ?_) AllReadyH.nil)
    go_simp
    refine (carry_yes v a true v a _).mono ?_
    rintro e v12 ⟨rfl, hb⟩
    have PB := hid (PB.out.belowAll hb)
    have TB := hid (TB.out.belowAll hb)
    have UB := hid (UB.out.belowAll hb)
    have XB := hid (XB.out.belowAll hb)
    have YB := hid (YB.out.belowAll hb)
    have HB := hid (HB.out.trans (hb.mono HB.out.size))
    have hsv12 : v11.heap.size ≤ v12.heap.size := by first | exact hb.size | omega
    clear hb
    refine hK1021.out _ _ (⟨PB.out, TB.out, XB.out, YB.out⟩) (fun hHeld1021 => ?_)
    clear hK1021 K1021
    try simp only [Act.put, List.setIfInBounds_toArray, List.set_cons_zero, List.set_cons_succ]
    refine wpAnyH_take (i := 21) (oi := { dst := some 38, op := Op.binOp BinOp.eql 23 (Operand.tmp 36) (Operand.tmp 37) 23, type := 4, pos := "more.go:36", after := _, guard := some (16, true) }) (v := ?_) rfl (by kernel_rfl) (by kernel_rfl) (by kernel_rfl) (fun _ _ _ h => h) (Or.inl ⟨by rfl, ?_⟩) (by assumption) ?_
    rotate_left
    · (intro W hSw; (try dsimp only at hSw); obtain ⟨hs0S, hs1S, hs2S, hs3S⟩ := hSw; clear hs0S hs1S hs2S hs3S; go_simp; try with_reducible rfl)
    simp only [Act.put, List.setIfInBounds_toArray, List.set_cons_zero, List.set_cons_succ]
    refine wpAnyH_take (i := 22) (oi := { dst := some 39, op := Op.pick (Operand.tmp 33) (Operand.tmp 38) (Operand.const (Value.bool false)), type := 4, pos := "more.go:36", after := _, guard := none }) (v := ?_) rfl (by kernel_rfl) (by kernel_rfl) (by kernel_rfl) (fun _ _ _ h => h) (Or.inl ⟨by rfl, ?_⟩) (by assumption) ?_
    rotate_left
    · (intro w hSw; (try dsimp only at hSw); go_simp; try with_reducible rfl)
    simp only [Act.put, List.setIfInBounds_toArray, List.set_cons_zero, List.set_cons_succ]
    refine wpAnyH_take (i := 23) (oi := { dst := some 40, op := Op.move (Operand.tmp 39), type := 4, pos := "more.go:36", after := _, guard := none }) (v := ?_) rfl (by kernel_rfl) (by kernel_rfl) (by kernel_rfl) (fun _ _ _ h => h) (Or.inl ⟨by rfl, ?_⟩) (by assumption) ?_
    rotate_left
    · (intro w hSw; (try dsimp only at hSw); go_simp; try with_reducible rfl)
    simp only [Act.put, List.setIfInBounds_toArray, List.set_cons_zero, List.set_cons_succ]
    refine wpAnyH_take (i := 24) (oi := { dst := some 41, op := Op.fieldAddr 23 (Operand.tmp 3) 0, type := 0, pos := "more.go:36", after := _, guard := some (23, true) }) (v := ?_) rfl (by kernel_rfl) (by kernel_rfl) (by kernel_rfl) (fun _ _ _ h => h) (Or.inl ⟨by rfl, ?_⟩) (by assumption) ?_
    rotate_left
    · (intro w hSw; (try dsimp only at hSw); go_simp; try with_reducible rfl)
    simp only [Act.put, List.setIfInBounds_toArray, List.set_cons_zero, List.set_cons_succ]
    refine wpAnyH_take (i := 25) (oi := { dst := some 42, op := Op.load 4 (Operand.tmp 41), type := 4, pos := "more.go:36", after := _, guard := some (23, true) }) (v := ?_) rfl (by kernel_rfl) (by kernel_rfl) (by kernel_rfl) (fun _ _ _ h => h) (Or.inl ⟨by rfl, ?_⟩) (by assumption) ?_
    rotate_left
    · (intro W hSw; (try dsimp only at hSw); obtain ⟨hs0S, hs1S, hs2S, hs3S⟩ := hSw; have c0_0 : W.cell? ⟨w.heap.size, 0, none⟩ = some (.bool true) := (BoxAt.cell hs0S 0).trans rfl; have c0_1 : W.cell? ⟨w.heap.size, 1, none⟩ = some (.int .i64 (v)) := (BoxAt.cell hs0S 1).trans rfl; have c0_2 : W.cell? ⟨w.heap.size, 2, none⟩ = some (.int .i64 (a)) := (BoxAt.cell hs0S 2).trans rfl; have c1_0 : W.cell? ⟨v1.heap.size, 0, none⟩ = some (.bool yk) := (BoxAt.cell hs1S 0).trans rfl; have c1_1 : W.cell? ⟨v1.heap.size, 1, none⟩ = some (.int .i64 (yv)) := (BoxAt.cell hs1S 1).trans rfl; have c1_2 : W.cell? ⟨v1.heap.size, 2, none⟩ = some (.int .i64 (ya)) := (BoxAt.cell hs1S 2).trans rfl; have c2_0 : W.cell? ⟨v5.heap.size, 0, none⟩ = some (.bool true) := (BoxAt.cell hs2S 0).trans rfl; have c2_1 : W.cell? ⟨v5.heap.size, 1, none⟩ = some (.int .i64 (v)) := (BoxAt.cell hs2S 1).trans rfl; have c2_2 : W.cell? ⟨v5.heap.size, 2, none⟩ = some (.int .i64 (a)) := (BoxAt.cell hs2S 2).trans rfl; have c3_0 : W.cell? ⟨v8.heap.size, 0, none⟩ = some (.bool true) := (BoxAt.cell hs3S 0).trans rfl; have c3_1 : W.cell? ⟨v8.heap.size, 1, none⟩ = some (.int .i64 (v)) := (BoxAt.cell hs3S 1).trans rfl; have c3_2 : W.cell? ⟨v8.heap.size, 2, none⟩ = some (.int .i64 (a)) := (BoxAt.cell hs3S 2).trans rfl; clear hs0S hs1S hs2S hs3S; go_simp; try with_reducible rfl)
    simp only [Act.put, List.setIfInBounds_toArray, List.set_cons_zero, List.set_cons_succ]
    refine wpAnyH_take (i := 26) (oi := { dst := some 43, op := Op.move (Operand.tmp 42), type := 4, pos := "more.go:36", after := _, guard := some (23, true) }) (v := ?_) rfl (by kernel_rfl) (by kernel_rfl) (by kernel_rfl) (fun _ _ _ h => h) (Or.inl ⟨by rfl, ?_⟩) (by assumption) ?_
    rotate_left
    · (intro w hSw; (try dsimp only at hSw); go_simp; try with_reducible rfl)
    simp only [Act.put, List.setIfInBounds_toArray, List.set_cons_zero, List.set_cons_succ]
    refine wpAnyH_take (i := 27) (oi := { dst := some 44, op := Op.load 23 (Operand.tmp 8), type := 23, pos := "more.go:36", after := _, guard := some (26, false) }) (v := undef) rfl (by kernel_rfl) (by kernel_rfl) (by kernel_rfl) (fun _ _ _ h => h) (Or.inr ⟨by rfl, rfl⟩) (by assumption) ?_
    simp only [Act.put, List.setIfInBounds_toArray, List.set_cons_zero, List.set_cons_succ]
    refine wpAnyH_take (i := 28) (oi := { dst := some 45, op := Op.load 23 (Operand.tmp 4), type := 23, pos := "more.go:36", after := _, guard := some (26, false) }) (v := undef) rfl (by kernel_rfl) (by kernel_rfl) (by kernel_rfl) (fun _ _ _ h => h) (Or.inr ⟨by rfl, rfl⟩) (by assumption) ?_
    simp only [Act.put, List.setIfInBounds_toArray, List.set_cons_zero, List.set_cons_succ]
    refine wpAnyH_take (i := 29) (oi := { dst := some 46, op := Op.binOp BinOp.eql 23 (Operand.tmp 44) (Operand.tmp 45) 23, type := 4, pos := "more.go:36", after := _, guard := some (26, false) }) (v := undef) rfl (by kernel_rfl) (by kernel_rfl) (by kernel_rfl) (fun _ _ _ h => h) (Or.inr ⟨by rfl, rfl⟩) (by assumption) ?_
    simp only [Act.put, List.setIfInBounds_toArray, List.set_cons_zero, List.set_cons_succ]
    refine wpAnyH_take (i := 30) (oi := { dst := some 47, op := Op.pick (Operand.tmp 43) (Operand.const (Value.bool true)) (Operand.tmp 46), type := 4, pos := "more.go:36", after := _, guard := some (23, true) }) (v := ?_) rfl (by kernel_rfl) (by kernel_rfl) (by kernel_rfl) (fun _ _ _ h => h) (Or.inl ⟨by rfl, ?_⟩) (by assumption) ?_
    rotate_left
    · (intro w hSw; (try dsimp only at hSw); go_simp; try with_reducible rfl)
    simp only [Act.put, List.setIfInBounds_toArray, List.set_cons_zero, List.set_cons_succ]
    refine wpAnyH_take (i := 31) (oi := { dst := some 48, op := Op.pick (Operand.tmp 40) (Operand.tmp 47) (Operand.const (Value.bool false)), type := 4, pos := "more.go:36", after := _, guard := none }) (v := ?_) rfl (by kernel_rfl) (by kernel_rfl) (by kernel_rfl) (fun _ _ _ h => h) (Or.inl ⟨by rfl, ?_⟩) (by assumption) ?_
    rotate_left
    · (intro w hSw; (try dsimp only at hSw); go_simp; try with_reducible rfl)
    simp only [Act.put, List.setIfInBounds_toArray, List.set_cons_zero, List.set_cons_succ]
    refine wpAnyH_take (i := 32) (oi := { dst := some 6, op := Op.assign (Operand.tmp 48), type := 4, pos := "more.go:36", after := _, guard := none }) (v := ?_) rfl (by kernel_rfl) (by kernel_rfl) (by kernel_rfl) (fun _ _ _ h => h) (Or.inl ⟨by rfl, ?_⟩) (by assumption) ?_
    rotate_left
    · (intro w hSw; (try dsimp only at hSw); go_simp; try with_reducible rfl)
    simp only [Act.put, List.setIfInBounds_toArray, List.set_cons_zero, List.set_cons_succ]
    refine wpAnyH_done (by kernel_rfl) ?_ _
    clear hHeld hHeld1021
    go_wp2
    go_ret
    exact ⟨rfl, HB.out⟩

end Go.Proofs.Ytpajidiobifjoaa
