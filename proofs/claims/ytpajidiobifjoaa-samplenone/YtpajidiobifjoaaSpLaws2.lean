/-
  SampleNone: the walk.
-/
import Derived.Test.YtpajidiobifjoaaSpAwake
import Derived.Test.YtpajidiobifjoaaSpOpen
namespace Go.Proofs.Ytpajidiobifjoaa
open Go.RowKit
set_option linter.unusedVariables false


set_option maxRecDepth 100000 in
set_option maxHeartbeats 3200000 in
theorem walk_SampleNone (w : World) (x0 : Sp) (f0 : x0.fit) (r : Int) (wr : (Lit.int .i64 r).wf = true) (now : Int) (wnow : (Lit.int .i64 now).wf = true) :
    Calls Try.prog 5 #[x0.val, .int .i64 (r), .int .i64 (now)] w fun e w' => e = .returned (.bool true) ∧ Below w.heap.size w w' := by
  clear f0 wr wnow
  obtain ⟨k, v, a⟩ := x0
  unfold Sp.val
  have HB := hid (Below.refl w.heap.size w)
  go_enter Try.func5, Try.ntmps5
  have FL1 := hid trivial
  go_wp2_with (first
    | (have hfl := FL1.out
       refine wpList_box rfl 23 (.tmp 0) rfl #[.bool k, .int .i64 (v), .int .i64 (a)] rfl ?_
       intro v1 b h z
       have PB := hid (show BoxAt v1 w.heap.size 23 #[.bool k, .int .i64 (v), .int .i64 (a)] from b)
       have HB := hid (HB.out.trans (h.mono HB.out.size))
       have hsv1 : w.heap.size + 1 ≤ v1.heap.size := by first | exact h.size | omega
       clear b h z hfl FL1)
    | fail)
  refine (spawake_any _).mono ?_
  rintro e v2 ⟨rfl, hb⟩
  have PB := hid (PB.out.belowAll hb)
  have HB := hid (HB.out.trans (hb.mono HB.out.size))
  have hsv2 : v1.heap.size ≤ v2.heap.size := by first | exact hb.size | omega
  clear hb
  have FL2 := hid trivial
  go_wp2_with (first
    | (have hfl := FL2.out
       refine wpList_store_box rfl 4 _ _ rfl rfl (w.heap.size) 0 (.bool false) rfl rfl rfl rfl (by kernel_rfl) _ _ PB.out (by simp) ?_
       intro v3 b g z
       have hsv3 : v2.heap.size ≤ v3.heap.size := by omega
       have PB := hid (show BoxAt v3 (w.heap.size) 23 #[.bool false, .int .i64 (v), .int .i64 (a)] from by simpa using b)
       have HB := hid (HB.out.trans (grown_below g (by omega) (by omega)))
       clear b g z hfl FL2)
    | (refine wpList_load_box rfl 23 _ rfl (w.heap.size) rfl _ _ PB.out _ Try.underlying23 Try.infoSp ?_)
    | fail)
  refine (get_any false v a r now _).mono ?_
  rintro e v4 ⟨rfl, hb⟩
  have PB := hid (PB.out.belowAll hb)
  have HB := hid (HB.out.trans (hb.mono HB.out.size))
  have hsv4 : v3.heap.size ≤ v4.heap.size := by first | exact hb.size | omega
  rw [show getC false a r now = 2 from rfl, show getV false v = 0 from rfl]
  clear hb
  go_wp2_with fail
  refine (put_any false 0 0 7 3 _).mono ?_
  rintro e v5 ⟨rfl, hb⟩
  have PB := hid (PB.out.belowAll hb)
  have HB := hid (HB.out.trans (hb.mono HB.out.size))
  have hsv5 : v4.heap.size ≤ v5.heap.size := by first | exact hb.size | omega
  clear hb
  have FL3 := hid trivial
  have FL4 := hid trivial
  go_wp2_with (first
    | (have hfl := FL3.out
       refine wpList_new rfl 23 rfl _ Try.zeroSp ?_
       intro v6 b h z
       have SB := hid (show BoxAt v6 v5.heap.size 23 #[.bool false, .int .i64 0, .int .i64 0] from b)
       have PB := hid (PB.out.belowAll h)
       have HB := hid (HB.out.trans (h.mono HB.out.size))
       have hsv6 : v5.heap.size + 1 ≤ v6.heap.size := by first | exact h.size | omega
       clear b h z hfl FL3)
    | (have hfl := FL4.out
       refine wpList_store_whole rfl 23 _ _ rfl rfl (v5.heap.size) rfl [.bool true, .int .i64 (7), .int .i64 (3)] rfl _ _ SB.out rfl Try.infoSp (by simp [Value.oneCell']) ?_
       intro v7 b g z
       have hsv7 : v6.heap.size ≤ v7.heap.size := by omega
       have SB := hid (show BoxAt v7 (v5.heap.size) 23 #[.bool true, .int .i64 (7), .int .i64 (3)] from b)
       have PB := hid (PB.out.grown g (fun e => by have := Option.some.inj e; omega))
       have HB := hid (HB.out.trans (grown_below g (by omega) (by omega)))
       clear b g z hfl FL4
       refine Hid.out ?_)
    | fail)
  refine hid ?_
  go_wp2_with fail
  have PB := hid (BoxAt.drew PB.out)
  have SB := hid (BoxAt.drew SB.out)
  have HB := hid (HB.out.drew)
  have hsv8 : v7.heap.size ≤ v7.drew.heap.size := Nat.le_refl _
  refine wp_region_held_drew (S := (fun w' : World => BoxAt w' (w.heap.size) 23 #[.bool false, .int .i64 (v), .int .i64 (a)] ∧ BoxAt w' (v5.heap.size) 23 #[.bool true, .int .i64 (7), .int .i64 (3)])) (by kernel_rfl) (⟨PB.out, SB.out⟩) (fun hHeld => ?_)
  generalize v7.drew = v8 at *
  refine wpAnyH_take (i := 0) (oi := { dst := some 22, op := Op.move (Operand.tmp 7), type := 4, pos := "more.go:14", after := _, guard := none }) (v := ?_) rfl (by kernel_rfl) (by kernel_rfl) (by kernel_rfl) (fun _ _ _ h => h) (Or.inl ⟨by rfl, ?_⟩) (by assumption) ?_
  rotate_left
  · (intro w hSw; (try dsimp only at hSw); go_simp; try with_reducible rfl)
  simp only [Act.put, List.setIfInBounds_toArray, List.set_cons_zero, List.set_cons_succ]
  refine wpAnyH_take (i := 1) (oi := { dst := some 23, op := Op.move (Operand.tmp 22), type := 4, pos := "more.go:14", after := _, guard := none }) (v := ?_) rfl (by kernel_rfl) (by kernel_rfl) (by kernel_rfl) (fun _ _ _ h => h) (Or.inl ⟨by rfl, ?_⟩) (by assumption) ?_
  rotate_left
  · (intro w hSw; (try dsimp only at hSw); go_simp; try with_reducible rfl)
  simp only [Act.put, List.setIfInBounds_toArray, List.set_cons_zero, List.set_cons_succ]
  refine wpAnyH_take (i := 2) (oi := { dst := some 24, op := Op.move (Operand.tmp 8), type := 3, pos := "more.go:14", after := _, guard := some (1, true) }) (v := ?_) rfl (by kernel_rfl) (by kernel_rfl) (by kernel_rfl) (fun _ _ _ h => h) (Or.inl ⟨by rfl, ?_⟩) (by assumption) ?_
  rotate_left
  · (intro w hSw; (try dsimp only at hSw); go_simp; try with_reducible rfl)
  simp only [Act.put, List.setIfInBounds_toArray, List.set_cons_zero, List.set_cons_succ]
  refine wpAnyH_take (i := 3) (oi := { dst := some 25, op := Op.binOp BinOp.eql 3 (Operand.tmp 24) (Operand.const (Value.int IntKind.i64 2)) 3, type := 4, pos := "more.go:14", after := _, guard := some (1, true) }) (v := ?_) rfl (by kernel_rfl) (by kernel_rfl) (by kernel_rfl) (fun _ _ _ h => h) (Or.inl ⟨by rfl, ?_⟩) (by assumption) ?_
  rotate_left
  · (intro W hSw; (try dsimp only at hSw); obtain ⟨hs0S, hs1S⟩ := hSw; clear hs0S hs1S; go_simp; try with_reducible rfl)
  simp only [Act.put, List.setIfInBounds_toArray, List.set_cons_zero, List.set_cons_succ]
  refine wpAnyH_take (i := 4) (oi := { dst := some 26, op := Op.pick (Operand.tmp 23) (Operand.tmp 25) (Operand.const (Value.bool false)), type := 4, pos := "more.go:14", after := _, guard := none }) (v := ?_) rfl (by kernel_rfl) (by kernel_rfl) (by kernel_rfl) (fun _ _ _ h => h) (Or.inl ⟨by rfl, ?_⟩) (by assumption) ?_
  rotate_left
  · (intro w hSw; (try dsimp only at hSw); go_simp; try with_reducible rfl)
  simp only [Act.put, List.setIfInBounds_toArray, List.set_cons_zero, List.set_cons_succ]
  refine wpAnyH_take (i := 5) (oi := { dst := some 27, op := Op.move (Operand.tmp 26), type := 4, pos := "more.go:14", after := _, guard := none }) (v := ?_) rfl (by kernel_rfl) (by kernel_rfl) (by kernel_rfl) (fun _ _ _ h => h) (Or.inl ⟨by rfl, ?_⟩) (by assumption) ?_
  rotate_left
  · (intro w hSw; (try dsimp only at hSw); go_simp; try with_reducible rfl)
  simp only [Act.put, List.setIfInBounds_toArray, List.set_cons_zero, List.set_cons_succ]
  refine wpAnyH_take (i := 6) (oi := { dst := some 28, op := Op.move (Operand.tmp 9), type := 3, pos := "more.go:14", after := _, guard := some (5, true) }) (v := ?_) rfl (by kernel_rfl) (by kernel_rfl) (by kernel_rfl) (fun _ _ _ h => h) (Or.inl ⟨by rfl, ?_⟩) (by assumption) ?_
  rotate_left
  · (intro w hSw; (try dsimp only at hSw); go_simp; try with_reducible rfl)
  simp only [Act.put, List.setIfInBounds_toArray, List.set_cons_zero, List.set_cons_succ]
  refine wpAnyH_take (i := 7) (oi := { dst := some 29, op := Op.binOp BinOp.eql 3 (Operand.tmp 28) (Operand.const (Value.int IntKind.i64 0)) 3, type := 4, pos := "more.go:14", after := _, guard := some (5, true) }) (v := ?_) rfl (by kernel_rfl) (by kernel_rfl) (by kernel_rfl) (fun _ _ _ h => h) (Or.inl ⟨by rfl, ?_⟩) (by assumption) ?_
  rotate_left
  · (intro W hSw; (try dsimp only at hSw); obtain ⟨hs0S, hs1S⟩ := hSw; clear hs0S hs1S; go_simp; try with_reducible rfl)
  simp only [Act.put, List.setIfInBounds_toArray, List.set_cons_zero, List.set_cons_succ]
  refine wpAnyH_take (i := 8) (oi := { dst := some 30, op := Op.pick (Operand.tmp 27) (Operand.tmp 29) (Operand.const (Value.bool false)), type := 4, pos := "more.go:14", after := _, guard := none }) (v := ?_) rfl (by kernel_rfl) (by kernel_rfl) (by kernel_rfl) (fun _ _ _ h => h) (Or.inl ⟨by rfl, ?_⟩) (by assumption) ?_
  rotate_left
  · (intro w hSw; (try dsimp only at hSw); go_simp; try with_reducible rfl)
  simp only [Act.put, List.setIfInBounds_toArray, List.set_cons_zero, List.set_cons_succ]
  refine wpAnyH_take (i := 9) (oi := { dst := some 31, op := Op.move (Operand.tmp 30), type := 4, pos := "more.go:14", after := _, guard := none }) (v := ?_) rfl (by kernel_rfl) (by kernel_rfl) (by kernel_rfl) (fun _ _ _ h => h) (Or.inl ⟨by rfl, ?_⟩) (by assumption) ?_
  rotate_left
  · (intro w hSw; (try dsimp only at hSw); go_simp; try with_reducible rfl)
  simp only [Act.put, List.setIfInBounds_toArray, List.set_cons_zero, List.set_cons_succ]
  refine wpAnyH_take (i := 10) (oi := { dst := some 32, op := Op.load 23 (Operand.tmp 3), type := 23, pos := "more.go:14", after := _, guard := some (9, true) }) (v := ?_) rfl (by kernel_rfl) (by kernel_rfl) (by kernel_rfl) (fun _ _ _ h => h) (Or.inl ⟨by rfl, ?_⟩) (by assumption) ?_
  rotate_left
  · (intro W hSw; (try dsimp only at hSw); obtain ⟨hs0S, hs1S⟩ := hSw; have c0_0 : W.cell? ⟨w.heap.size, 0, none⟩ = some (.bool false) := (BoxAt.cell hs0S 0).trans rfl; have c0_1 : W.cell? ⟨w.heap.size, 1, none⟩ = some (.int .i64 (v)) := (BoxAt.cell hs0S 1).trans rfl; have c0_2 : W.cell? ⟨w.heap.size, 2, none⟩ = some (.int .i64 (a)) := (BoxAt.cell hs0S 2).trans rfl; have c1_0 : W.cell? ⟨v5.heap.size, 0, none⟩ = some (.bool true) := (BoxAt.cell hs1S 0).trans rfl; have c1_1 : W.cell? ⟨v5.heap.size, 1, none⟩ = some (.int .i64 (7)) := (BoxAt.cell hs1S 1).trans rfl; have c1_2 : W.cell? ⟨v5.heap.size, 2, none⟩ = some (.int .i64 (3)) := (BoxAt.cell hs1S 2).trans rfl; clear hs0S hs1S; go_simp; try with_reducible rfl)
  simp only [Act.put, List.setIfInBounds_toArray, List.set_cons_zero, List.set_cons_succ]
  refine wpAnyH_take (i := 11) (oi := { dst := some 33, op := Op.load 23 (Operand.tmp 10), type := 23, pos := "more.go:14", after := _, guard := some (9, true) }) (v := ?_) rfl (by kernel_rfl) (by kernel_rfl) (by kernel_rfl) (fun _ _ _ h => h) (Or.inl ⟨by rfl, ?_⟩) (by assumption) ?_
  rotate_left
  · (intro W hSw; (try dsimp only at hSw); obtain ⟨hs0S, hs1S⟩ := hSw; have c0_0 : W.cell? ⟨w.heap.size, 0, none⟩ = some (.bool false) := (BoxAt.cell hs0S 0).trans rfl; have c0_1 : W.cell? ⟨w.heap.size, 1, none⟩ = some (.int .i64 (v)) := (BoxAt.cell hs0S 1).trans rfl; have c0_2 : W.cell? ⟨w.heap.size, 2, none⟩ = some (.int .i64 (a)) := (BoxAt.cell hs0S 2).trans rfl; have c1_0 : W.cell? ⟨v5.heap.size, 0, none⟩ = some (.bool true) := (BoxAt.cell hs1S 0).trans rfl; have c1_1 : W.cell? ⟨v5.heap.size, 1, none⟩ = some (.int .i64 (7)) := (BoxAt.cell hs1S 1).trans rfl; have c1_2 : W.cell? ⟨v5.heap.size, 2, none⟩ = some (.int .i64 (3)) := (BoxAt.cell hs1S 2).trans rfl; clear hs0S hs1S; go_simp; try with_reducible rfl)
  simp only [Act.put, List.setIfInBounds_toArray, List.set_cons_zero, List.set_cons_succ]
  refine wpAnyH_take (i := 13) (oi := { dst := some 35, op := Op.load 23 (Operand.tmp 10), type := 23, pos := "more.go:14", after := _, guard := some (9, true) }) (v := ?_) rfl (by kernel_rfl) (by kernel_rfl) (by kernel_rfl) (fun _ _ _ h => h) (Or.inl ⟨by rfl, ?_⟩) (by assumption) ?_
  rotate_left
  · (intro W hSw; (try dsimp only at hSw); obtain ⟨hs0S, hs1S⟩ := hSw; have c0_0 : W.cell? ⟨w.heap.size, 0, none⟩ = some (.bool false) := (BoxAt.cell hs0S 0).trans rfl; have c0_1 : W.cell? ⟨w.heap.size, 1, none⟩ = some (.int .i64 (v)) := (BoxAt.cell hs0S 1).trans rfl; have c0_2 : W.cell? ⟨w.heap.size, 2, none⟩ = some (.int .i64 (a)) := (BoxAt.cell hs0S 2).trans rfl; have c1_0 : W.cell? ⟨v5.heap.size, 0, none⟩ = some (.bool true) := (BoxAt.cell hs1S 0).trans rfl; have c1_1 : W.cell? ⟨v5.heap.size, 1, none⟩ = some (.int .i64 (7)) := (BoxAt.cell hs1S 1).trans rfl; have c1_2 : W.cell? ⟨v5.heap.size, 2, none⟩ = some (.int .i64 (3)) := (BoxAt.cell hs1S 2).trans rfl; clear hs0S hs1S; go_simp; try with_reducible rfl)
  simp only [Act.put, List.setIfInBounds_toArray, List.set_cons_zero, List.set_cons_succ]
  refine wpAnyH_ready (rs := [12]) (by kernel_rfl) (by simp) (AllReadyH.cons (o := { dst := some 34, op := Op.call { callee := Callee.value (Operand.func 13), args := #[Operand.tmp 32, Operand.tmp 33], argTypes := #[23, 23] }, type := 23, pos := "more.go:14", after := _, guard := some (9, true) }) rfl (fun K1014 hK1014 => ?_) AllReadyH.nil)
  go_simp
  refine (carry_no v a true 7 3 _).mono ?_
  rintro e v9 ⟨rfl, hb⟩
  have PB := hid (PB.out.belowAll hb)
  have SB := hid (SB.out.belowAll hb)
  have HB := hid (HB.out.trans (hb.mono HB.out.size))
  have hsv9 : v8.heap.size ≤ v9.heap.size := by first | exact hb.size | omega
  clear hb
  refine hK1014.out _ _ (⟨PB.out, SB.out⟩) (fun hHeld1014 => ?_)
  clear hK1014 K1014
  try simp only [Act.put, List.setIfInBounds_toArray, List.set_cons_zero, List.set_cons_succ]
  refine wpAnyH_take (i := 14) (oi := { dst := some 36, op := Op.binOp BinOp.eql 23 (Operand.tmp 34) (Operand.tmp 35) 23, type := 4, pos := "more.go:14", after := _, guard := some (9, true) }) (v := ?_) rfl (by kernel_rfl) (by kernel_rfl) (by kernel_rfl) (fun _ _ _ h => h) (Or.inl ⟨by rfl, ?_⟩) (by assumption) ?_
  rotate_left
  · (intro W hSw; (try dsimp only at hSw); obtain ⟨hs0S, hs1S⟩ := hSw; clear hs0S hs1S; go_simp; try with_reducible rfl)
  simp only [Act.put, List.setIfInBounds_toArray, List.set_cons_zero, List.set_cons_succ]
  refine wpAnyH_take (i := 15) (oi := { dst := some 37, op := Op.pick (Operand.tmp 31) (Operand.tmp 36) (Operand.const (Value.bool false)), type := 4, pos := "more.go:14", after := _, guard := none }) (v := ?_) rfl (by kernel_rfl) (by kernel_rfl) (by kernel_rfl) (fun _ _ _ h => h) (Or.inl ⟨by rfl, ?_⟩) (by assumption) ?_
  rotate_left
  · (intro w hSw; (try dsimp only at hSw); go_simp; try with_reducible rfl)
  simp only [Act.put, List.setIfInBounds_toArray, List.set_cons_zero, List.set_cons_succ]
  refine wpAnyH_take (i := 16) (oi := { dst := some 6, op := Op.assign (Operand.tmp 37), type := 4, pos := "more.go:14", after := _, guard := none }) (v := ?_) rfl (by kernel_rfl) (by kernel_rfl) (by kernel_rfl) (fun _ _ _ h => h) (Or.inl ⟨by rfl, ?_⟩) (by assumption) ?_
  rotate_left
  · (intro w hSw; (try dsimp only at hSw); go_simp; try with_reducible rfl)
  simp only [Act.put, List.setIfInBounds_toArray, List.set_cons_zero, List.set_cons_succ]
  refine wpAnyH_done (by kernel_rfl) ?_ _
  clear hHeld hHeld1014
  go_wp2
  go_ret
  exact ⟨rfl, HB.out⟩

end Go.Proofs.Ytpajidiobifjoaa
