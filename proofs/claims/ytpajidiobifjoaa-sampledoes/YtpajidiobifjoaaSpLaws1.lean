/-
  SampleDoes: the walk.
-/
import Derived.Test.YtpajidiobifjoaaSpAwake
import Derived.Test.YtpajidiobifjoaaSpOpen
namespace Go.Proofs.Ytpajidiobifjoaa
open Go.RowKit
set_option linter.unusedVariables false


set_option maxRecDepth 100000 in
set_option maxHeartbeats 3200000 in
theorem walk_SampleDoes (w : World) (x0 : Sp) (f0 : x0.fit) (x1 : Sp) (f1 : x1.fit) (x : Int) (wx : (Lit.int .i64 x).wf = true) (r : Int) (wr : (Lit.int .i64 r).wf = true) (now : Int) (wnow : (Lit.int .i64 now).wf = true) :
    Calls Try.prog 3 #[x0.val, x1.val, .int .i64 (x), .int .i64 (r), .int .i64 (now)] w fun e w' => e = .returned (.bool true) ∧ Below w.heap.size w w' := by
  clear f0 f1 wx wr wnow
  obtain ⟨k, v, a⟩ := x0
  obtain ⟨yk, yv, ya⟩ := x1
  unfold Sp.val
  obtain ⟨ec, hec⟩ : ∃ z, getC k a r now = z := ⟨_, rfl⟩
  have HEC := hid hec
  obtain ⟨ev, hev⟩ : ∃ z, getV k v = z := ⟨_, rfl⟩
  have HEV := hid hev
  clear hec hev
  have eec : (ec == ec) = true := by simp
  have eev : (ev == ev) = true := by simp
  have ex : (x == x) = true := by simp
  have enow : (now == now) = true := by simp
  have ev : (v == v) = true := by simp
  have ea : (a == a) = true := by simp
  have eyk : (yk == yk) = true := by simp
  have eyv : (yv == yv) = true := by simp
  have eya : (ya == ya) = true := by simp
  have HB := hid (Below.refl w.heap.size w)
  go_enter Try.func3, Try.ntmps3
  rcases k with _ | _
  · have FL1 := hid trivial
    have FL2 := hid trivial
    go_wp2_with (first
      | (have hfl := FL1.out
         refine wpList_box rfl 23 (.tmp 0) rfl #[.bool false, .int .i64 (v), .int .i64 (a)] rfl ?_
         intro v1 b h z
         have PB := hid (show BoxAt v1 w.heap.size 23 #[.bool false, .int .i64 (v), .int .i64 (a)] from b)
         have HB := hid (HB.out.trans (h.mono HB.out.size))
         have hsv1 : w.heap.size + 1 ≤ v1.heap.size := by first | exact h.size | omega
         clear b h z hfl FL1)
      | (have hfl := FL2.out
         refine wpList_box rfl 23 (.tmp 1) rfl #[.bool yk, .int .i64 (yv), .int .i64 (ya)] rfl ?_
         intro v2 b h z
         have TB := hid (show BoxAt v2 v1.heap.size 23 #[.bool yk, .int .i64 (yv), .int .i64 (ya)] from b)
         have PB := hid (PB.out.belowAll h)
         have HB := hid (HB.out.trans (h.mono HB.out.size))
         have hsv2 : v1.heap.size + 1 ≤ v2.heap.size := by first | exact h.size | omega
         clear b h z hfl FL2
         refine Hid.out ?_)
      | fail)
    refine hid ?_
    have kPB2 : v2.cell? ⟨w.heap.size, 2, none⟩ = some (.int .i64 (a)) := (BoxAt.cell PB.out 2).trans rfl
    go_wp2_with fail
    refine (spawake_any _).mono ?_
    rintro e v3 ⟨rfl, hb⟩
    have PB := hid (PB.out.belowAll hb)
    have TB := hid (TB.out.belowAll hb)
    have HB := hid (HB.out.trans (hb.mono HB.out.size))
    have hsv3 : v2.heap.size ≤ v3.heap.size := by first | exact hb.size | omega
    clear kPB2
    have kPB2 : v3.cell? ⟨w.heap.size, 2, none⟩ = some (.int .i64 (a)) := (BoxAt.cell PB.out 2).trans rfl
    clear hb
    by_cases hgd3_0 : a < 0
    · go_wp2
      go_ret
      exact ⟨rfl, HB.out⟩
    by_cases hgd3_1 : 1099511627776 < a
    · go_wp2
      go_ret
      exact ⟨rfl, HB.out⟩
    by_cases hgd3_2 : r < 0
    · go_wp2
      go_ret
      exact ⟨rfl, HB.out⟩
    by_cases hgd3_3 : 1099511627776 < r
    · go_wp2
      go_ret
      exact ⟨rfl, HB.out⟩
    go_wp2_with (first
      | (refine wpList_load_box rfl 23 _ rfl (w.heap.size) rfl _ _ PB.out _ Try.underlying23 Try.infoSp ?_)
      | fail)
    refine (get_any false v a r now _).mono ?_
    rintro e v4 ⟨rfl, hb⟩
    have PB := hid (PB.out.belowAll hb)
    have TB := hid (TB.out.belowAll hb)
    have HB := hid (HB.out.trans (hb.mono HB.out.size))
    have hsv4 : v3.heap.size ≤ v4.heap.size := by first | exact hb.size | omega
    rw [HEC.out, HEV.out]
    clear kPB2
    have kPB2 : v4.cell? ⟨w.heap.size, 2, none⟩ = some (.int .i64 (a)) := (BoxAt.cell PB.out 2).trans rfl
    clear hb
    go_wp2_with (first
      | (refine wpList_load_box rfl 23 _ rfl (w.heap.size) rfl _ _ PB.out _ Try.underlying23 Try.infoSp ?_)
      | fail)
    refine (rget_any false v a r now _).mono ?_
    rintro e v5 ⟨rfl, hb⟩
    have PB := hid (PB.out.belowAll hb)
    have TB := hid (TB.out.belowAll hb)
    have HB := hid (HB.out.trans (hb.mono HB.out.size))
    have hsv5 : v4.heap.size ≤ v5.heap.size := by first | exact hb.size | omega
    rw [HEC.out, HEV.out]
    clear kPB2
    have kPB2 : v5.cell? ⟨w.heap.size, 2, none⟩ = some (.int .i64 (a)) := (BoxAt.cell PB.out 2).trans rfl
    clear hb
    go_wp2_with fail
    clear kPB2
    have PB := hid (BoxAt.drew PB.out)
    have TB := hid (BoxAt.drew TB.out)
    have HB := hid (HB.out.drew)
    have hsv6 : v5.heap.size ≤ v5.drew.heap.size := Nat.le_refl _
    refine wp_region_held_drew (S := (fun w' : World => BoxAt w' (w.heap.size) 23 #[.bool false, .int .i64 (v), .int .i64 (a)] ∧ BoxAt w' (v1.heap.size) 23 #[.bool yk, .int .i64 (yv), .int .i64 (ya)])) (by kernel_rfl) (⟨PB.out, TB.out⟩) (fun hHeld => ?_)
    generalize v5.drew = v6 at *
    refine wpAnyH_take (i := 0) (oi := { dst := some 52, op := Op.move (Operand.tmp 12), type := 3, pos := "law.go:26", after := _, guard := none }) (v := ?_) rfl (by kernel_rfl) (by kernel_rfl) (by kernel_rfl) (fun _ _ _ h => h) (Or.inl ⟨by rfl, ?_⟩) (by assumption) ?_
    rotate_left
    · (intro w hSw; (try dsimp only at hSw); go_simp; try with_reducible rfl)
    simp only [Act.put, List.setIfInBounds_toArray, List.set_cons_zero, List.set_cons_succ]
    refine wpAnyH_take (i := 1) (oi := { dst := some 53, op := Op.move (Operand.tmp 14), type := 3, pos := "law.go:26", after := _, guard := none }) (v := ?_) rfl (by kernel_rfl) (by kernel_rfl) (by kernel_rfl) (fun _ _ _ h => h) (Or.inl ⟨by rfl, ?_⟩) (by assumption) ?_
    rotate_left
    · (intro w hSw; (try dsimp only at hSw); go_simp; try with_reducible rfl)
    simp only [Act.put, List.setIfInBounds_toArray, List.set_cons_zero, List.set_cons_succ]
    refine wpAnyH_take (i := 2) (oi := { dst := some 54, op := Op.binOp BinOp.eql 3 (Operand.tmp 52) (Operand.tmp 53) 3, type := 4, pos := "law.go:26", after := _, guard := none }) (v := ?_) rfl (by kernel_rfl) (by kernel_rfl) (by kernel_rfl) (fun _ _ _ h => h) (Or.inl ⟨by rfl, ?_⟩) (by assumption) ?_
    rotate_left
    · (intro W hSw; (try dsimp only at hSw); obtain ⟨hs0S, hs1S⟩ := hSw; clear hs0S hs1S; go_simp; try with_reducible rfl)
    simp only [Act.put, List.setIfInBounds_toArray, List.set_cons_zero, List.set_cons_succ]
    refine wpAnyH_take (i := 3) (oi := { dst := some 55, op := Op.move (Operand.tmp 54), type := 4, pos := "law.go:26", after := _, guard := none }) (v := ?_) rfl (by kernel_rfl) (by kernel_rfl) (by kernel_rfl) (fun _ _ _ h => h) (Or.inl ⟨by rfl, ?_⟩) (by assumption) ?_
    rotate_left
    · (intro w hSw; (try dsimp only at hSw); go_simp; try with_reducible rfl)
    simp only [Act.put, List.setIfInBounds_toArray, List.set_cons_zero, List.set_cons_succ]
    refine wpAnyH_take (i := 4) (oi := { dst := some 56, op := Op.move (Operand.tmp 13), type := 3, pos := "law.go:26", after := _, guard := some (3, true) }) (v := ?_) rfl (by kernel_rfl) (by kernel_rfl) (by kernel_rfl) (fun _ _ _ h => h) (Or.inl ⟨by rfl, ?_⟩) (by assumption) ?_
    rotate_left
    · (intro w hSw; (try dsimp only at hSw); go_simp; try with_reducible rfl)
    simp only [Act.put, List.setIfInBounds_toArray, List.set_cons_zero, List.set_cons_succ]
    refine wpAnyH_take (i := 5) (oi := { dst := some 57, op := Op.move (Operand.tmp 15), type := 3, pos := "law.go:26", after := _, guard := some (3, true) }) (v := ?_) rfl (by kernel_rfl) (by kernel_rfl) (by kernel_rfl) (fun _ _ _ h => h) (Or.inl ⟨by rfl, ?_⟩) (by assumption) ?_
    rotate_left
    · (intro w hSw; (try dsimp only at hSw); go_simp; try with_reducible rfl)
    simp only [Act.put, List.setIfInBounds_toArray, List.set_cons_zero, List.set_cons_succ]
    refine wpAnyH_take (i := 6) (oi := { dst := some 58, op := Op.binOp BinOp.eql 3 (Operand.tmp 56) (Operand.tmp 57) 3, type := 4, pos := "law.go:26", after := _, guard := some (3, true) }) (v := ?_) rfl (by kernel_rfl) (by kernel_rfl) (by kernel_rfl) (fun _ _ _ h => h) (Or.inl ⟨by rfl, ?_⟩) (by assumption) ?_
    rotate_left
    · (intro W hSw; (try dsimp only at hSw); obtain ⟨hs0S, hs1S⟩ := hSw; clear hs0S hs1S; go_simp; try with_reducible rfl)
    simp only [Act.put, List.setIfInBounds_toArray, List.set_cons_zero, List.set_cons_succ]
    refine wpAnyH_take (i := 7) (oi := { dst := some 59, op := Op.pick (Operand.tmp 55) (Operand.tmp 58) (Operand.const (Value.bool false)), type := 4, pos := "law.go:26", after := _, guard := none }) (v := ?_) rfl (by kernel_rfl) (by kernel_rfl) (by kernel_rfl) (fun _ _ _ h => h) (Or.inl ⟨by rfl, ?_⟩) (by assumption) ?_
    rotate_left
    · (intro w hSw; (try dsimp only at hSw); go_simp; try with_reducible rfl)
    simp only [Act.put, List.setIfInBounds_toArray, List.set_cons_zero, List.set_cons_succ]
    refine wpAnyH_take (i := 8) (oi := { dst := some 60, op := Op.move (Operand.tmp 59), type := 4, pos := "law.go:26", after := _, guard := none }) (v := ?_) rfl (by kernel_rfl) (by kernel_rfl) (by kernel_rfl) (fun _ _ _ h => h) (Or.inl ⟨by rfl, ?_⟩) (by assumption) ?_
    rotate_left
    · (intro w hSw; (try dsimp only at hSw); go_simp; try with_reducible rfl)
    simp only [Act.put, List.setIfInBounds_toArray, List.set_cons_zero, List.set_cons_succ]
    refine wpAnyH_take (i := 9) (oi := { dst := some 61, op := Op.load 23 (Operand.tmp 5), type := 23, pos := "law.go:26", after := _, guard := some (8, true) }) (v := ?_) rfl (by kernel_rfl) (by kernel_rfl) (by kernel_rfl) (fun _ _ _ h => h) (Or.inl ⟨by rfl, ?_⟩) (by assumption) ?_
    rotate_left
    · (intro W hSw; (try dsimp only at hSw); obtain ⟨hs0S, hs1S⟩ := hSw; have c0_0 : W.cell? ⟨w.heap.size, 0, none⟩ = some (.bool false) := (BoxAt.cell hs0S 0).trans rfl; have c0_1 : W.cell? ⟨w.heap.size, 1, none⟩ = some (.int .i64 (v)) := (BoxAt.cell hs0S 1).trans rfl; have c0_2 : W.cell? ⟨w.heap.size, 2, none⟩ = some (.int .i64 (a)) := (BoxAt.cell hs0S 2).trans rfl; have c1_0 : W.cell? ⟨v1.heap.size, 0, none⟩ = some (.bool yk) := (BoxAt.cell hs1S 0).trans rfl; have c1_1 : W.cell? ⟨v1.heap.size, 1, none⟩ = some (.int .i64 (yv)) := (BoxAt.cell hs1S 1).trans rfl; have c1_2 : W.cell? ⟨v1.heap.size, 2, none⟩ = some (.int .i64 (ya)) := (BoxAt.cell hs1S 2).trans rfl; clear hs0S hs1S; go_simp; try with_reducible rfl)
    simp only [Act.put, List.setIfInBounds_toArray, List.set_cons_zero, List.set_cons_succ]
    refine wpAnyH_take (i := 10) (oi := { dst := some 62, op := Op.move (Operand.tmp 2), type := 3, pos := "law.go:26", after := _, guard := some (8, true) }) (v := ?_) rfl (by kernel_rfl) (by kernel_rfl) (by kernel_rfl) (fun _ _ _ h => h) (Or.inl ⟨by rfl, ?_⟩) (by assumption) ?_
    rotate_left
    · (intro w hSw; (try dsimp only at hSw); go_simp; try with_reducible rfl)
    simp only [Act.put, List.setIfInBounds_toArray, List.set_cons_zero, List.set_cons_succ]
    refine wpAnyH_take (i := 11) (oi := { dst := some 63, op := Op.move (Operand.tmp 4), type := 3, pos := "law.go:26", after := _, guard := some (8, true) }) (v := ?_) rfl (by kernel_rfl) (by kernel_rfl) (by kernel_rfl) (fun _ _ _ h => h) (Or.inl ⟨by rfl, ?_⟩) (by assumption) ?_
    rotate_left
    · (intro w hSw; (try dsimp only at hSw); go_simp; try with_reducible rfl)
    simp only [Act.put, List.setIfInBounds_toArray, List.set_cons_zero, List.set_cons_succ]
    refine wpAnyH_take (i := 13) (oi := { dst := some 65, op := Op.load 23 (Operand.tmp 5), type := 23, pos := "law.go:26", after := _, guard := some (8, true) }) (v := ?_) rfl (by kernel_rfl) (by kernel_rfl) (by kernel_rfl) (fun _ _ _ h => h) (Or.inl ⟨by rfl, ?_⟩) (by assumption) ?_
    rotate_left
    · (intro W hSw; (try dsimp only at hSw); obtain ⟨hs0S, hs1S⟩ := hSw; have c0_0 : W.cell? ⟨w.heap.size, 0, none⟩ = some (.bool false) := (BoxAt.cell hs0S 0).trans rfl; have c0_1 : W.cell? ⟨w.heap.size, 1, none⟩ = some (.int .i64 (v)) := (BoxAt.cell hs0S 1).trans rfl; have c0_2 : W.cell? ⟨w.heap.size, 2, none⟩ = some (.int .i64 (a)) := (BoxAt.cell hs0S 2).trans rfl; have c1_0 : W.cell? ⟨v1.heap.size, 0, none⟩ = some (.bool yk) := (BoxAt.cell hs1S 0).trans rfl; have c1_1 : W.cell? ⟨v1.heap.size, 1, none⟩ = some (.int .i64 (yv)) := (BoxAt.cell hs1S 1).trans rfl; have c1_2 : W.cell? ⟨v1.heap.size, 2, none⟩ = some (.int .i64 (ya)) := (BoxAt.cell hs1S 2).trans rfl; clear hs0S hs1S; go_simp; try with_reducible rfl)
    simp only [Act.put, List.setIfInBounds_toArray, List.set_cons_zero, List.set_cons_succ]
    refine wpAnyH_take (i := 14) (oi := { dst := some 66, op := Op.move (Operand.tmp 2), type := 3, pos := "law.go:26", after := _, guard := some (8, true) }) (v := ?_) rfl (by kernel_rfl) (by kernel_rfl) (by kernel_rfl) (fun _ _ _ h => h) (Or.inl ⟨by rfl, ?_⟩) (by assumption) ?_
    rotate_left
    · (intro w hSw; (try dsimp only at hSw); go_simp; try with_reducible rfl)
    simp only [Act.put, List.setIfInBounds_toArray, List.set_cons_zero, List.set_cons_succ]
    refine wpAnyH_take (i := 15) (oi := { dst := some 67, op := Op.move (Operand.tmp 4), type := 3, pos := "law.go:26", after := _, guard := some (8, true) }) (v := ?_) rfl (by kernel_rfl) (by kernel_rfl) (by kernel_rfl) (fun _ _ _ h => h) (Or.inl ⟨by rfl, ?_⟩) (by assumption) ?_
    rotate_left
    · (intro w hSw; (try dsimp only at hSw); go_simp; try with_reducible rfl)
    simp only [Act.put, List.setIfInBounds_toArray, List.set_cons_zero, List.set_cons_succ]
    refine wpAnyH_ready (rs := [12]) (by kernel_rfl) (by simp) (AllReadyH.cons (o := { dst := some 64, op := Op.call { callee := Callee.value (Operand.func 11), args := #[Operand.tmp 61, Operand.tmp 62, Operand.tmp 63], argTypes := #[23, 3, 3] }, type := 23, pos := "law.go:26", after := _, guard := some (8, true) }) rfl (fun K1016 hK1016 => ?_) AllReadyH.nil)
    go_simp
    refine (put_any false v a x now _).mono ?_
    rintro e v7 ⟨rfl, hb⟩
    have PB := hid (PB.out.belowAll hb)
    have TB := hid (TB.out.belowAll hb)
    have HB := hid (HB.out.trans (hb.mono HB.out.size))
    have hsv7 : v6.heap.size ≤ v7.heap.size := by first | exact hb.size | omega
    clear hb
    refine hK1016.out _ _ (⟨PB.out, TB.out⟩) (fun hHeld1016 => ?_)
    clear hK1016 K1016
    try simp only [Act.put, List.setIfInBounds_toArray, List.set_cons_zero, List.set_cons_succ]
    refine wpAnyH_ready (rs := [16]) (by kernel_rfl) (by simp) (AllReadyH.cons (o := { dst := some 68, op := Op.call { callee := Callee.value (Operand.func 12), args := #[Operand.tmp 65, Operand.tmp 66, Operand.tmp 67], argTypes := #[23, 3, 3] }, type := 23, pos := "law.go:26", after := _, guard := some (8, true) }) rfl (fun K1017 hK1017 => ?_) AllReadyH.nil)
    go_simp
    refine (rput_any false v a x now _).mono ?_
    rintro e v8 ⟨rfl, hb⟩
    have PB := hid (PB.out.belowAll hb)
    have TB := hid (TB.out.belowAll hb)
    have HB := hid (HB.out.trans (hb.mono HB.out.size))
    have hsv8 : v7.heap.size ≤ v8.heap.size := by first | exact hb.size | omega
    clear hb
    refine hK1017.out _ _ (⟨PB.out, TB.out⟩) (fun hHeld1017 => ?_)
    clear hK1017 K1017
    try simp only [Act.put, List.setIfInBounds_toArray, List.set_cons_zero, List.set_cons_succ]
    refine wpAnyH_take (i := 17) (oi := { dst := some 69, op := Op.binOp BinOp.eql 23 (Operand.tmp 64) (Operand.tmp 68) 23, type := 4, pos := "law.go:26", after := _, guard := some (8, true) }) (v := ?_) rfl (by kernel_rfl) (by kernel_rfl) (by kernel_rfl) (fun _ _ _ h => h) (Or.inl ⟨by rfl, ?_⟩) (by assumption) ?_
    rotate_left
    · (intro W hSw; (try dsimp only at hSw); obtain ⟨hs0S, hs1S⟩ := hSw; clear hs0S hs1S; go_simp; try with_reducible rfl)
    simp only [Act.put, List.setIfInBounds_toArray, List.set_cons_zero, List.set_cons_succ]
    refine wpAnyH_take (i := 18) (oi := { dst := some 70, op := Op.pick (Operand.tmp 60) (Operand.tmp 69) (Operand.const (Value.bool false)), type := 4, pos := "law.go:26", after := _, guard := none }) (v := ?_) rfl (by kernel_rfl) (by kernel_rfl) (by kernel_rfl) (fun _ _ _ h => h) (Or.inl ⟨by rfl, ?_⟩) (by assumption) ?_
    rotate_left
    · (intro w hSw; (try dsimp only at hSw); go_simp; try with_reducible rfl)
    simp only [Act.put, List.setIfInBounds_toArray, List.set_cons_zero, List.set_cons_succ]
    refine wpAnyH_take (i := 19) (oi := { dst := some 71, op := Op.move (Operand.tmp 70), type := 4, pos := "law.go:26", after := _, guard := none }) (v := ?_) rfl (by kernel_rfl) (by kernel_rfl) (by kernel_rfl) (fun _ _ _ h => h) (Or.inl ⟨by rfl, ?_⟩) (by assumption) ?_
    rotate_left
    · (intro w hSw; (try dsimp only at hSw); go_simp; try with_reducible rfl)
    simp only [Act.put, List.setIfInBounds_toArray, List.set_cons_zero, List.set_cons_succ]
    refine wpAnyH_take (i := 20) (oi := { dst := some 72, op := Op.load 23 (Operand.tmp 5), type := 23, pos := "law.go:26", after := _, guard := some (19, true) }) (v := ?_) rfl (by kernel_rfl) (by kernel_rfl) (by kernel_rfl) (fun _ _ _ h => h) (Or.inl ⟨by rfl, ?_⟩) (by assumption) ?_
    rotate_left
    · (intro W hSw; (try dsimp only at hSw); obtain ⟨hs0S, hs1S⟩ := hSw; have c0_0 : W.cell? ⟨w.heap.size, 0, none⟩ = some (.bool false) := (BoxAt.cell hs0S 0).trans rfl; have c0_1 : W.cell? ⟨w.heap.size, 1, none⟩ = some (.int .i64 (v)) := (BoxAt.cell hs0S 1).trans rfl; have c0_2 : W.cell? ⟨w.heap.size, 2, none⟩ = some (.int .i64 (a)) := (BoxAt.cell hs0S 2).trans rfl; have c1_0 : W.cell? ⟨v1.heap.size, 0, none⟩ = some (.bool yk) := (BoxAt.cell hs1S 0).trans rfl; have c1_1 : W.cell? ⟨v1.heap.size, 1, none⟩ = some (.int .i64 (yv)) := (BoxAt.cell hs1S 1).trans rfl; have c1_2 : W.cell? ⟨v1.heap.size, 2, none⟩ = some (.int .i64 (ya)) := (BoxAt.cell hs1S 2).trans rfl; clear hs0S hs1S; go_simp; try with_reducible rfl)
    simp only [Act.put, List.setIfInBounds_toArray, List.set_cons_zero, List.set_cons_succ]
    refine wpAnyH_take (i := 21) (oi := { dst := some 73, op := Op.load 23 (Operand.tmp 6), type := 23, pos := "law.go:26", after := _, guard := some (19, true) }) (v := ?_) rfl (by kernel_rfl) (by kernel_rfl) (by kernel_rfl) (fun _ _ _ h => h) (Or.inl ⟨by rfl, ?_⟩) (by assumption) ?_
    rotate_left
    · (intro W hSw; (try dsimp only at hSw); obtain ⟨hs0S, hs1S⟩ := hSw; have c0_0 : W.cell? ⟨w.heap.size, 0, none⟩ = some (.bool false) := (BoxAt.cell hs0S 0).trans rfl; have c0_1 : W.cell? ⟨w.heap.size, 1, none⟩ = some (.int .i64 (v)) := (BoxAt.cell hs0S 1).trans rfl; have c0_2 : W.cell? ⟨w.heap.size, 2, none⟩ = some (.int .i64 (a)) := (BoxAt.cell hs0S 2).trans rfl; have c1_0 : W.cell? ⟨v1.heap.size, 0, none⟩ = some (.bool yk) := (BoxAt.cell hs1S 0).trans rfl; have c1_1 : W.cell? ⟨v1.heap.size, 1, none⟩ = some (.int .i64 (yv)) := (BoxAt.cell hs1S 1).trans rfl; have c1_2 : W.cell? ⟨v1.heap.size, 2, none⟩ = some (.int .i64 (ya)) := (BoxAt.cell hs1S 2).trans rfl; clear hs0S hs1S; go_simp; try with_reducible rfl)
    simp only [Act.put, List.setIfInBounds_toArray, List.set_cons_zero, List.set_cons_succ]
    refine wpAnyH_take (i := 23) (oi := { dst := some 75, op := Op.load 23 (Operand.tmp 5), type := 23, pos := "law.go:26", after := _, guard := some (19, true) }) (v := ?_) rfl (by kernel_rfl) (by kernel_rfl) (by kernel_rfl) (fun _ _ _ h => h) (Or.inl ⟨by rfl, ?_⟩) (by assumption) ?_
    rotate_left
    · (intro W hSw; (try dsimp only at hSw); obtain ⟨hs0S, hs1S⟩ := hSw; have c0_0 : W.cell? ⟨w.heap.size, 0, none⟩ = some (.bool false) := (BoxAt.cell hs0S 0).trans rfl; have c0_1 : W.cell? ⟨w.heap.size, 1, none⟩ = some (.int .i64 (v)) := (BoxAt.cell hs0S 1).trans rfl; have c0_2 : W.cell? ⟨w.heap.size, 2, none⟩ = some (.int .i64 (a)) := (BoxAt.cell hs0S 2).trans rfl; have c1_0 : W.cell? ⟨v1.heap.size, 0, none⟩ = some (.bool yk) := (BoxAt.cell hs1S 0).trans rfl; have c1_1 : W.cell? ⟨v1.heap.size, 1, none⟩ = some (.int .i64 (yv)) := (BoxAt.cell hs1S 1).trans rfl; have c1_2 : W.cell? ⟨v1.heap.size, 2, none⟩ = some (.int .i64 (ya)) := (BoxAt.cell hs1S 2).trans rfl; clear hs0S hs1S; go_simp; try with_reducible rfl)
    simp only [Act.put, List.setIfInBounds_toArray, List.set_cons_zero, List.set_cons_succ]
    refine wpAnyH_take (i := 24) (oi := { dst := some 76, op := Op.load 23 (Operand.tmp 6), type := 23, pos := "law.go:26", after := _, guard := some (19, true) }) (v := ?_) rfl (by kernel_rfl) (by kernel_rfl) (by kernel_rfl) (fun _ _ _ h => h) (Or.inl ⟨by rfl, ?_⟩) (by assumption) ?_
    rotate_left
    · (intro W hSw; (try dsimp only at hSw); obtain ⟨hs0S, hs1S⟩ := hSw; have c0_0 : W.cell? ⟨w.heap.size, 0, none⟩ = some (.bool false) := (BoxAt.cell hs0S 0).trans rfl; have c0_1 : W.cell? ⟨w.heap.size, 1, none⟩ = some (.int .i64 (v)) := (BoxAt.cell hs0S 1).trans rfl; have c0_2 : W.cell? ⟨w.heap.size, 2, none⟩ = some (.int .i64 (a)) := (BoxAt.cell hs0S 2).trans rfl; have c1_0 : W.cell? ⟨v1.heap.size, 0, none⟩ = some (.bool yk) := (BoxAt.cell hs1S 0).trans rfl; have c1_1 : W.cell? ⟨v1.heap.size, 1, none⟩ = some (.int .i64 (yv)) := (BoxAt.cell hs1S 1).trans rfl; have c1_2 : W.cell? ⟨v1.heap.size, 2, none⟩ = some (.int .i64 (ya)) := (BoxAt.cell hs1S 2).trans rfl; clear hs0S hs1S; go_simp; try with_reducible rfl)
    simp only [Act.put, List.setIfInBounds_toArray, List.set_cons_zero, List.set_cons_succ]
    refine wpAnyH_ready (rs := [22]) (by kernel_rfl) (by simp) (AllReadyH.cons (o := { dst := some 74, op := Op.call { callee := Callee.value (Operand.func 13), args := #[Operand.tmp 72, Operand.tmp 73], argTypes := #[23, 23] }, type := 23, pos := "law.go:26", after := _, guard := some (19, true) }) rfl (fun K1025 hK1025 => ?_) AllReadyH.nil)
    go_simp
    refine (carry_no v a yk yv ya _).mono ?_
    rintro e v9 ⟨rfl, hb⟩
    have PB := hid (PB.out.belowAll hb)
    have TB := hid (TB.out.belowAll hb)
    have HB := hid (HB.out.trans (hb.mono HB.out.size))
    have hsv9 : v8.heap.size ≤ v9.heap.size := by first | exact hb.size | omega
    clear hb
    refine hK1025.out _ _ (⟨PB.out, TB.out⟩) (fun hHeld1025 => ?_)
    clear hK1025 K1025
    try simp only [Act.put, List.setIfInBounds_toArray, List.set_cons_zero, List.set_cons_succ]
    refine wpAnyH_ready (rs := [25]) (by kernel_rfl) (by simp) (AllReadyH.cons (o := { dst := some 77, op := Op.call { callee := Callee.value (Operand.func 14), args := #[Operand.tmp 75, Operand.tmp 76], argTypes := #[23, 23] }, type := 23, pos := "law.go:26", after := _, guard := some (19, true) }) rfl (fun K1026 hK1026 => ?_) AllReadyH.nil)
    go_simp
    refine (rcarry_no v a yk yv ya _).mono ?_
    rintro e v10 ⟨rfl, hb⟩
    have PB := hid (PB.out.belowAll hb)
    have TB := hid (TB.out.belowAll hb)
    have HB := hid (HB.out.trans (hb.mono HB.out.size))
    have hsv10 : v9.heap.size ≤ v10.heap.size := by first | exact hb.size | omega
    clear hb
    refine hK1026.out _ _ (⟨PB.out, TB.out⟩) (fun hHeld1026 => ?_)
    clear hK1026 K1026
    try simp only [Act.put, List.setIfInBounds_toArray, List.set_cons_zero, List.set_cons_succ]
    refine wpAnyH_take (i := 26) (oi := { dst := some 78, op := Op.binOp BinOp.eql 23 (Operand.tmp 74) (Operand.tmp 77) 23, type := 4, pos := "law.go:26", after := _, guard := some (19, true) }) (v := ?_) rfl (by kernel_rfl) (by kernel_rfl) (by kernel_rfl) (fun _ _ _ h => h) (Or.inl ⟨by rfl, ?_⟩) (by assumption) ?_
    rotate_left
    · (intro W hSw; (try dsimp only at hSw); obtain ⟨hs0S, hs1S⟩ := hSw; clear hs0S hs1S; go_simp; try with_reducible rfl)
    simp only [Act.put, List.setIfInBounds_toArray, List.set_cons_zero, List.set_cons_succ]
    refine wpAnyH_take (i := 27) (oi := { dst := some 79, op := Op.pick (Operand.tmp 71) (Operand.tmp 78) (Operand.const (Value.bool false)), type := 4, pos := "law.go:26", after := _, guard := none }) (v := ?_) rfl (by kernel_rfl) (by kernel_rfl) (by kernel_rfl) (fun _ _ _ h => h) (Or.inl ⟨by rfl, ?_⟩) (by assumption) ?_
    rotate_left
    · (intro w hSw; (try dsimp only at hSw); go_simp; try with_reducible rfl)
    simp only [Act.put, List.setIfInBounds_toArray, List.set_cons_zero, List.set_cons_succ]
    refine wpAnyH_take (i := 28) (oi := { dst := some 10, op := Op.assign (Operand.tmp 79), type := 4, pos := "law.go:26", after := _, guard := none }) (v := ?_) rfl (by kernel_rfl) (by kernel_rfl) (by kernel_rfl) (fun _ _ _ h => h) (Or.inl ⟨by rfl, ?_⟩) (by assumption) ?_
    rotate_left
    · (intro w hSw; (try dsimp only at hSw); go_simp; try with_reducible rfl)
    simp only [Act.put, List.setIfInBounds_toArray, List.set_cons_zero, List.set_cons_succ]
    refine wpAnyH_done (by kernel_rfl) ?_ _
    clear hHeld hHeld1016 hHeld1017 hHeld1025 hHeld1026
    have kPB2 : v10.cell? ⟨w.heap.size, 2, none⟩ = some (.int .i64 (a)) := (BoxAt.cell PB.out 2).trans rfl
    go_wp2
    go_ret
    exact ⟨rfl, HB.out⟩
  · have FL1 := hid trivial
    have FL2 := hid trivial
    go_wp2_with (first
      | (have hfl := FL1.out
         refine wpList_box rfl 23 (.tmp 0) rfl #[.bool true, .int .i64 (v), .int .i64 (a)] rfl ?_
         intro v1 b h z
         have PB := hid (show BoxAt v1 w.heap.size 23 #[.bool true, .int .i64 (v), .int .i64 (a)] from b)
         have HB := hid (HB.out.trans (h.mono HB.out.size))
         have hsv1 : w.heap.size + 1 ≤ v1.heap.size := by first | exact h.size | omega
         clear b h z hfl FL1)
      | (have hfl := FL2.out
         refine wpList_box rfl 23 (.tmp 1) rfl #[.bool yk, .int .i64 (yv), .int .i64 (ya)] rfl ?_
         intro v2 b h z
         have TB := hid (show BoxAt v2 v1.heap.size 23 #[.bool yk, .int .i64 (yv), .int .i64 (ya)] from b)
         have PB := hid (PB.out.belowAll h)
         have HB := hid (HB.out.trans (h.mono HB.out.size))
         have hsv2 : v1.heap.size + 1 ≤ v2.heap.size := by first | exact h.size | omega
         clear b h z hfl FL2
         refine Hid.out ?_)
      | fail)
    refine hid ?_
    have kPB2 : v2.cell? ⟨w.heap.size, 2, none⟩ = some (.int .i64 (a)) := (BoxAt.cell PB.out 2).trans rfl
    go_wp2_with fail
    refine (spawake_any _).mono ?_
    rintro e v3 ⟨rfl, hb⟩
    have PB := hid (PB.out.belowAll hb)
    have TB := hid (TB.out.belowAll hb)
    have HB := hid (HB.out.trans (hb.mono HB.out.size))
    have hsv3 : v2.heap.size ≤ v3.heap.size := by first | exact hb.size | omega
    clear kPB2
    have kPB2 : v3.cell? ⟨w.heap.size, 2, none⟩ = some (.int .i64 (a)) := (BoxAt.cell PB.out 2).trans rfl
    clear hb
    by_cases hgd3_0 : a < 0
    · go_wp2
      go_ret
      exact ⟨rfl, HB.out⟩
    by_cases hgd3_1 : 1099511627776 < a
    · go_wp2
      go_ret
      exact ⟨rfl, HB.out⟩
    by_cases hgd3_2 : r < 0
    · go_wp2
      go_ret
      exact ⟨rfl, HB.out⟩
    by_cases hgd3_3 : 1099511627776 < r
    · go_wp2
      go_ret
      exact ⟨rfl, HB.out⟩
    go_wp2_with (first
      | (refine wpList_load_box rfl 23 _ rfl (w.heap.size) rfl _ _ PB.out _ Try.underlying23 Try.infoSp ?_)
      | fail)
    refine (get_any true v a r now _).mono ?_
    rintro e v4 ⟨rfl, hb⟩
    have PB := hid (PB.out.belowAll hb)
    have TB := hid (TB.out.belowAll hb)
    have HB := hid (HB.out.trans (hb.mono HB.out.size))
    have hsv4 : v3.heap.size ≤ v4.heap.size := by first | exact hb.size | omega
    rw [HEC.out, HEV.out]
    clear kPB2
    have kPB2 : v4.cell? ⟨w.heap.size, 2, none⟩ = some (.int .i64 (a)) := (BoxAt.cell PB.out 2).trans rfl
    clear hb
    go_wp2_with (first
      | (refine wpList_load_box rfl 23 _ rfl (w.heap.size) rfl _ _ PB.out _ Try.underlying23 Try.infoSp ?_)
      | fail)
    refine (rget_any true v a r now _).mono ?_
    rintro e v5 ⟨rfl, hb⟩
    have PB := hid (PB.out.belowAll hb)
    have TB := hid (TB.out.belowAll hb)
    have HB := hid (HB.out.trans (hb.mono HB.out.size))
    have hsv5 : v4.heap.size ≤ v5.heap.size := by first | exact hb.size | omega
    rw [HEC.out, HEV.out]
    clear kPB2
    have kPB2 : v5.cell? ⟨w.heap.size, 2, none⟩ = some (.int .i64 (a)) := (BoxAt.cell PB.out 2).trans rfl
    clear hb
    go_wp2_with fail
    clear kPB2
    have PB := hid (BoxAt.drew PB.out)
    have TB := hid (BoxAt.drew TB.out)
    have HB := hid (HB.out.drew)
    have hsv6 : v5.heap.size ≤ v5.drew.heap.size := Nat.le_refl _
    refine wp_region_held_drew (S := (fun w' : World => BoxAt w' (w.heap.size) 23 #[.bool true, .int .i64 (v), .int .i64 (a)] ∧ BoxAt w' (v1.heap.size) 23 #[.bool yk, .int .i64 (yv), .int .i64 (ya)])) (by kernel_rfl) (⟨PB.out, TB.out⟩) (fun hHeld => ?_)
    generalize v5.drew = v6 at *
    refine wpAnyH_take (i := 0) (oi := { dst := some 52, op := Op.move (Operand.tmp 12), type := 3, pos := "law.go:26", after := _, guard := none }) (v := ?_) rfl (by kernel_rfl) (by kernel_rfl) (by kernel_rfl) (fun _ _ _ h => h) (Or.inl ⟨by rfl, ?_⟩) (by assumption) ?_
    rotate_left
    · (intro w hSw; (try dsimp only at hSw); go_simp; try with_reducible rfl)
    simp only [Act.put, List.setIfInBounds_toArray, List.set_cons_zero, List.set_cons_succ]
    refine wpAnyH_take (i := 1) (oi := { dst := some 53, op := Op.move (Operand.tmp 14), type := 3, pos := "law.go:26", after := _, guard := none }) (v := ?_) rfl (by kernel_rfl) (by kernel_rfl) (by kernel_rfl) (fun _ _ _ h => h) (Or.inl ⟨by rfl, ?_⟩) (by assumption) ?_
    rotate_left
    · (intro w hSw; (try dsimp only at hSw); go_simp; try with_reducible rfl)
    simp only [Act.put, List.setIfInBounds_toArray, List.set_cons_zero, List.set_cons_succ]
    refine wpAnyH_take (i := 2) (oi := { dst := some 54, op := Op.binOp BinOp.eql 3 (Operand.tmp 52) (Operand.tmp 53) 3, type := 4, pos := "law.go:26", after := _, guard := none }) (v := ?_) rfl (by kernel_rfl) (by kernel_rfl) (by kernel_rfl) (fun _ _ _ h => h) (Or.inl ⟨by rfl, ?_⟩) (by assumption) ?_
    rotate_left
    · (intro W hSw; (try dsimp only at hSw); obtain ⟨hs0S, hs1S⟩ := hSw; clear hs0S hs1S; go_simp; try with_reducible rfl)
    simp only [Act.put, List.setIfInBounds_toArray, List.set_cons_zero, List.set_cons_succ]
    refine wpAnyH_take (i := 3) (oi := { dst := some 55, op := Op.move (Operand.tmp 54), type := 4, pos := "law.go:26", after := _, guard := none }) (v := ?_) rfl (by kernel_rfl) (by kernel_rfl) (by kernel_rfl) (fun _ _ _ h => h) (Or.inl ⟨by rfl, ?_⟩) (by assumption) ?_
    rotate_left
    · (intro w hSw; (try dsimp only at hSw); go_simp; try with_reducible rfl)
    simp only [Act.put, List.setIfInBounds_toArray, List.set_cons_zero, List.set_cons_succ]
    refine wpAnyH_take (i := 4) (oi := { dst := some 56, op := Op.move (Operand.tmp 13), type := 3, pos := "law.go:26", after := _, guard := some (3, true) }) (v := ?_) rfl (by kernel_rfl) (by kernel_rfl) (by kernel_rfl) (fun _ _ _ h => h) (Or.inl ⟨by rfl, ?_⟩) (by assumption) ?_
    rotate_left
    · (intro w hSw; (try dsimp only at hSw); go_simp; try with_reducible rfl)
    simp only [Act.put, List.setIfInBounds_toArray, List.set_cons_zero, List.set_cons_succ]
    refine wpAnyH_take (i := 5) (oi := { dst := some 57, op := Op.move (Operand.tmp 15), type := 3, pos := "law.go:26", after := _, guard := some (3, true) }) (v := ?_) rfl (by kernel_rfl) (by kernel_rfl) (by kernel_rfl) (fun _ _ _ h => h) (Or.inl ⟨by rfl, ?_⟩) (by assumption) ?_
    rotate_left
    · (intro w hSw; (try dsimp only at hSw); go_simp; try with_reducible rfl)
    simp only [Act.put, List.setIfInBounds_toArray, List.set_cons_zero, List.set_cons_succ]
    refine wpAnyH_take (i := 6) (oi := { dst := some 58, op := Op.binOp BinOp.eql 3 (Operand.tmp 56) (Operand.tmp 57) 3, type := 4, pos := "law.go:26", after := _, guard := some (3, true) }) (v := ?_) rfl (by kernel_rfl) (by kernel_rfl) (by kernel_rfl) (fun _ _ _ h => h) (Or.inl ⟨by rfl, ?_⟩) (by assumption) ?_
    rotate_left
    · (intro W hSw; (try dsimp only at hSw); obtain ⟨hs0S, hs1S⟩ := hSw; clear hs0S hs1S; go_simp; try with_reducible rfl)
    simp only [Act.put, List.setIfInBounds_toArray, List.set_cons_zero, List.set_cons_succ]
    refine wpAnyH_take (i := 7) (oi := { dst := some 59, op := Op.pick (Operand.tmp 55) (Operand.tmp 58) (Operand.const (Value.bool false)), type := 4, pos := "law.go:26", after := _, guard := none }) (v := ?_) rfl (by kernel_rfl) (by kernel_rfl) (by kernel_rfl) (fun _ _ _ h => h) (Or.inl ⟨by rfl, ?_⟩) (by assumption) ?_
    rotate_left
    · (intro w hSw; (try dsimp only at hSw); go_simp; try with_reducible rfl)
    simp only [Act.put, List.setIfInBounds_toArray, List.set_cons_zero, List.set_cons_succ]
    refine wpAnyH_take (i := 8) (oi := { dst := some 60, op := Op.move (Operand.tmp 59), type := 4, pos := "law.go:26", after := _, guard := none }) (v := ?_) rfl (by kernel_rfl) (by kernel_rfl) (by kernel_rfl) (fun _ _ _ h => h) (Or.inl ⟨by rfl, ?_⟩) (by assumption) ?_
    rotate_left
    · (intro w hSw; (try dsimp only at hSw); go_simp; try with_reducible rfl)
    simp only [Act.put, List.setIfInBounds_toArray, List.set_cons_zero, List.set_cons_succ]
    refine wpAnyH_take (i := 9) (oi := { dst := some 61, op := Op.load 23 (Operand.tmp 5), type := 23, pos := "law.go:26", after := _, guard := some (8, true) }) (v := ?_) rfl (by kernel_rfl) (by kernel_rfl) (by kernel_rfl) (fun _ _ _ h => h) (Or.inl ⟨by rfl, ?_⟩) (by assumption) ?_
    rotate_left
    · (intro W hSw; (try dsimp only at hSw); obtain ⟨hs0S, hs1S⟩ := hSw; have c0_0 : W.cell? ⟨w.heap.size, 0, none⟩ = some (.bool true) := (BoxAt.cell hs0S 0).trans rfl; have c0_1 : W.cell? ⟨w.heap.size, 1, none⟩ = some (.int .i64 (v)) := (BoxAt.cell hs0S 1).trans rfl; have c0_2 : W.cell? ⟨w.heap.size, 2, none⟩ = some (.int .i64 (a)) := (BoxAt.cell hs0S 2).trans rfl; have c1_0 : W.cell? ⟨v1.heap.size, 0, none⟩ = some (.bool yk) := (BoxAt.cell hs1S 0).trans rfl; have c1_1 : W.cell? ⟨v1.heap.size, 1, none⟩ = some (.int .i64 (yv)) := (BoxAt.cell hs1S 1).trans rfl; have c1_2 : W.cell? ⟨v1.heap.size, 2, none⟩ = some (.int .i64 (ya)) := (BoxAt.cell hs1S 2).trans rfl; clear hs0S hs1S; go_simp; try with_reducible rfl)
    simp only [Act.put, List.setIfInBounds_toArray, List.set_cons_zero, List.set_cons_succ]
    refine wpAnyH_take (i := 10) (oi := { dst := some 62, op := Op.move (Operand.tmp 2), type := 3, pos := "law.go:26", after := _, guard := some (8, true) }) (v := ?_) rfl (by kernel_rfl) (by kernel_rfl) (by kernel_rfl) (fun _ _ _ h => h) (Or.inl ⟨by rfl, ?_⟩) (by assumption) ?_
    rotate_left
    · (intro w hSw; (try dsimp only at hSw); go_simp; try with_reducible rfl)
    simp only [Act.put, List.setIfInBounds_toArray, List.set_cons_zero, List.set_cons_succ]
    refine wpAnyH_take (i := 11) (oi := { dst := some 63, op := Op.move (Operand.tmp 4), type := 3, pos := "law.go:26", after := _, guard := some (8, true) }) (v := ?_) rfl (by kernel_rfl) (by kernel_rfl) (by kernel_rfl) (fun _ _ _ h => h) (Or.inl ⟨by rfl, ?_⟩) (by assumption) ?_
    rotate_left
    · (intro w hSw; (try dsimp only at hSw); go_simp; try with_reducible rfl)
    simp only [Act.put, List.setIfInBounds_toArray, List.set_cons_zero, List.set_cons_succ]
    refine wpAnyH_take (i := 13) (oi := { dst := some 65, op := Op.load 23 (Operand.tmp 5), type := 23, pos := "law.go:26", after := _, guard := some (8, true) }) (v := ?_) rfl (by kernel_rfl) (by kernel_rfl) (by kernel_rfl) (fun _ _ _ h => h) (Or.inl ⟨by rfl, ?_⟩) (by assumption) ?_
    rotate_left
    · (intro W hSw; (try dsimp only at hSw); obtain ⟨hs0S, hs1S⟩ := hSw; have c0_0 : W.cell? ⟨w.heap.size, 0, none⟩ = some (.bool true) := (BoxAt.cell hs0S 0).trans rfl; have c0_1 : W.cell? ⟨w.heap.size, 1, none⟩ = some (.int .i64 (v)) := (BoxAt.cell hs0S 1).trans rfl; have c0_2 : W.cell? ⟨w.heap.size, 2, none⟩ = some (.int .i64 (a)) := (BoxAt.cell hs0S 2).trans rfl; have c1_0 : W.cell? ⟨v1.heap.size, 0, none⟩ = some (.bool yk) := (BoxAt.cell hs1S 0).trans rfl; have c1_1 : W.cell? ⟨v1.heap.size, 1, none⟩ = some (.int .i64 (yv)) := (BoxAt.cell hs1S 1).trans rfl; have c1_2 : W.cell? ⟨v1.heap.size, 2, none⟩ = some (.int .i64 (ya)) := (BoxAt.cell hs1S 2).trans rfl; clear hs0S hs1S; go_simp; try with_reducible rfl)
    simp only [Act.put, List.setIfInBounds_toArray, List.set_cons_zero, List.set_cons_succ]
    refine wpAnyH_take (i := 14) (oi := { dst := some 66, op := Op.move (Operand.tmp 2), type := 3, pos := "law.go:26", after := _, guard := some (8, true) }) (v := ?_) rfl (by kernel_rfl) (by kernel_rfl) (by kernel_rfl) (fun _ _ _ h => h) (Or.inl ⟨by rfl, ?_⟩) (by assumption) ?_
    rotate_left
    · (intro w hSw; (try dsimp only at hSw); go_simp; try with_reducible rfl)
    simp only [Act.put, List.setIfInBounds_toArray, List.set_cons_zero, List.set_cons_succ]
    refine wpAnyH_take (i := 15) (oi := { dst := some 67, op := Op.move (Operand.tmp 4), type := 3, pos := "law.go:26", after := _, guard := some (8, true) }) (v := ?_) rfl (by kernel_rfl) (by kernel_rfl) (by kernel_rfl) (fun _ _ _ h => h) (Or.inl ⟨by rfl, ?_⟩) (by assumption) ?_
    rotate_left
    · (intro w hSw; (try dsimp only at hSw); go_simp; try with_reducible rfl)
    simp only [Act.put, List.setIfInBounds_toArray, List.set_cons_zero, List.set_cons_succ]
    refine wpAnyH_ready (rs := [12]) (by kernel_rfl) (by simp) (AllReadyH.cons (o := { dst := some 64, op := Op.call { callee := Callee.value (Operand.func 11), args := #[Operand.tmp 61, Operand.tmp 62, Operand.tmp 63], argTypes := #[23, 3, 3] }, type := 23, pos := "law.go:26", after := _, guard := some (8, true) }) rfl (fun K1016 hK1016 => ?_) AllReadyH.nil)
    go_simp
    refine (put_any true v a x now _).mono ?_
    rintro e v7 ⟨rfl, hb⟩
    have PB := hid (PB.out.belowAll hb)
    have TB := hid (TB.out.belowAll hb)
    have HB := hid (HB.out.trans (hb.mono HB.out.size))
    have hsv7 : v6.heap.size ≤ v7.heap.size := by first | exact hb.size | omega
    clear hb
    refine hK1016.out _ _ (⟨PB.out, TB.out⟩) (fun hHeld1016 => ?_)
    clear hK1016 K1016
    try simp only [Act.put, List.setIfInBounds_toArray, List.set_cons_zero, List.set_cons_succ]
    refine wpAnyH_ready (rs := [16]) (by kernel_rfl) (by simp) (AllReadyH.cons (o := { dst := some 68, op := Op.call { callee := Callee.value (Operand.func 12), args := #[Operand.tmp 65, Operand.tmp 66, Operand.tmp 67], argTypes := #[23, 3, 3] }, type := 23, pos := "law.go:26", after := _, guard := some (8, true) }) rfl (fun K1017 hK1017 => ?_) AllReadyH.nil)
    go_simp
    refine (rput_any true v a x now _).mono ?_
    rintro e v8 ⟨rfl, hb⟩
    have PB := hid (PB.out.belowAll hb)
    have TB := hid (TB.out.belowAll hb)
    have HB := hid (HB.out.trans (hb.mono HB.out.size))
    have hsv8 : v7.heap.size ≤ v8.heap.size := by first | exact hb.size | omega
    clear hb
    refine hK1017.out _ _ (⟨PB.out, TB.out⟩) (fun hHeld1017 => ?_)
    clear hK1017 K1017
    try simp only [Act.put, List.setIfInBounds_toArray, List.set_cons_zero, List.set_cons_succ]
    refine wpAnyH_take (i := 17) (oi := { dst := some 69, op := Op.binOp BinOp.eql 23 (Operand.tmp 64) (Operand.tmp 68) 23, type := 4, pos := "law.go:26", after := _, guard := some (8, true) }) (v := ?_) rfl (by kernel_rfl) (by kernel_rfl) (by kernel_rfl) (fun _ _ _ h => h) (Or.inl ⟨by rfl, ?_⟩) (by assumption) ?_
    rotate_left
    · (intro W hSw; (try dsimp only at hSw); obtain ⟨hs0S, hs1S⟩ := hSw; clear hs0S hs1S; go_simp; try with_reducible rfl)
    simp only [Act.put, List.setIfInBounds_toArray, List.set_cons_zero, List.set_cons_succ]
    refine wpAnyH_take (i := 18) (oi := { dst := some 70, op := Op.pick (Operand.tmp 60) (Operand.tmp 69) (Operand.const (Value.bool false)), type := 4, pos := "law.go:26", after := _, guard := none }) (v := ?_) rfl (by kernel_rfl) (by kernel_rfl) (by kernel_rfl) (fun _ _ _ h => h) (Or.inl ⟨by rfl, ?_⟩) (by assumption) ?_
    rotate_left
    · (intro w hSw; (try dsimp only at hSw); go_simp; try with_reducible rfl)
    simp only [Act.put, List.setIfInBounds_toArray, List.set_cons_zero, List.set_cons_succ]
    refine wpAnyH_take (i := 19) (oi := { dst := some 71, op := Op.move (Operand.tmp 70), type := 4, pos := "law.go:26", after := _, guard := none }) (v := ?_) rfl (by kernel_rfl) (by kernel_rfl) (by kernel_rfl) (fun _ _ _ h => h) (Or.inl ⟨by rfl, ?_⟩) (by assumption) ?_
    rotate_left
    · (intro w hSw; (try dsimp only at hSw); go_simp; try with_reducible rfl)
    simp only [Act.put, List.setIfInBounds_toArray, List.set_cons_zero, List.set_cons_succ]
    refine wpAnyH_take (i := 20) (oi := { dst := some 72, op := Op.load 23 (Operand.tmp 5), type := 23, pos := "law.go:26", after := _, guard := some (19, true) }) (v := ?_) rfl (by kernel_rfl) (by kernel_rfl) (by kernel_rfl) (fun _ _ _ h => h) (Or.inl ⟨by rfl, ?_⟩) (by assumption) ?_
    rotate_left
    · (intro W hSw; (try dsimp only at hSw); obtain ⟨hs0S, hs1S⟩ := hSw; have c0_0 : W.cell? ⟨w.heap.size, 0, none⟩ = some (.bool true) := (BoxAt.cell hs0S 0).trans rfl; have c0_1 : W.cell? ⟨w.heap.size, 1, none⟩ = some (.int .i64 (v)) := (BoxAt.cell hs0S 1).trans rfl; have c0_2 : W.cell? ⟨w.heap.size, 2, none⟩ = some (.int .i64 (a)) := (BoxAt.cell hs0S 2).trans rfl; have c1_0 : W.cell? ⟨v1.heap.size, 0, none⟩ = some (.bool yk) := (BoxAt.cell hs1S 0).trans rfl; have c1_1 : W.cell? ⟨v1.heap.size, 1, none⟩ = some (.int .i64 (yv)) := (BoxAt.cell hs1S 1).trans rfl; have c1_2 : W.cell? ⟨v1.heap.size, 2, none⟩ = some (.int .i64 (ya)) := (BoxAt.cell hs1S 2).trans rfl; clear hs0S hs1S; go_simp; try with_reducible rfl)
    simp only [Act.put, List.setIfInBounds_toArray, List.set_cons_zero, List.set_cons_succ]
    refine wpAnyH_take (i := 21) (oi := { dst := some 73, op := Op.load 23 (Operand.tmp 6), type := 23, pos := "law.go:26", after := _, guard := some (19, true) }) (v := ?_) rfl (by kernel_rfl) (by kernel_rfl) (by kernel_rfl) (fun _ _ _ h => h) (Or.inl ⟨by rfl, ?_⟩) (by assumption) ?_
    rotate_left
    · (intro W hSw; (try dsimp only at hSw); obtain ⟨hs0S, hs1S⟩ := hSw; have c0_0 : W.cell? ⟨w.heap.size, 0, none⟩ = some (.bool true) := (BoxAt.cell hs0S 0).trans rfl; have c0_1 : W.cell? ⟨w.heap.size, 1, none⟩ = some (.int .i64 (v)) := (BoxAt.cell hs0S 1).trans rfl; have c0_2 : W.cell? ⟨w.heap.size, 2, none⟩ = some (.int .i64 (a)) := (BoxAt.cell hs0S 2).trans rfl; have c1_0 : W.cell? ⟨v1.heap.size, 0, none⟩ = some (.bool yk) := (BoxAt.cell hs1S 0).trans rfl; have c1_1 : W.cell? ⟨v1.heap.size, 1, none⟩ = some (.int .i64 (yv)) := (BoxAt.cell hs1S 1).trans rfl; have c1_2 : W.cell? ⟨v1.heap.size, 2, none⟩ = some (.int .i64 (ya)) := (BoxAt.cell hs1S 2).trans rfl; clear hs0S hs1S; go_simp; try with_reducible rfl)
    simp only [Act.put, List.setIfInBounds_toArray, List.set_cons_zero, List.set_cons_succ]
    refine wpAnyH_take (i := 23) (oi := { dst := some 75, op := Op.load 23 (Operand.tmp 5), type := 23, pos := "law.go:26", after := _, guard := some (19, true) }) (v := ?_) rfl (by kernel_rfl) (by kernel_rfl) (by kernel_rfl) (fun _ _ _ h => h) (Or.inl ⟨by rfl, ?_⟩) (by assumption) ?_
    rotate_left
    · (intro W hSw; (try dsimp only at hSw); obtain ⟨hs0S, hs1S⟩ := hSw; have c0_0 : W.cell? ⟨w.heap.size, 0, none⟩ = some (.bool true) := (BoxAt.cell hs0S 0).trans rfl; have c0_1 : W.cell? ⟨w.heap.size, 1, none⟩ = some (.int .i64 (v)) := (BoxAt.cell hs0S 1).trans rfl; have c0_2 : W.cell? ⟨w.heap.size, 2, none⟩ = some (.int .i64 (a)) := (BoxAt.cell hs0S 2).trans rfl; have c1_0 : W.cell? ⟨v1.heap.size, 0, none⟩ = some (.bool yk) := (BoxAt.cell hs1S 0).trans rfl; have c1_1 : W.cell? ⟨v1.heap.size, 1, none⟩ = some (.int .i64 (yv)) := (BoxAt.cell hs1S 1).trans rfl; have c1_2 : W.cell? ⟨v1.heap.size, 2, none⟩ = some (.int .i64 (ya)) := (BoxAt.cell hs1S 2).trans rfl; clear hs0S hs1S; go_simp; try with_reducible rfl)
    simp only [Act.put, List.setIfInBounds_toArray, List.set_cons_zero, List.set_cons_succ]
    refine wpAnyH_take (i := 24) (oi := { dst := some 76, op := Op.load 23 (Operand.tmp 6), type := 23, pos := "law.go:26", after := _, guard := some (19, true) }) (v := ?_) rfl (by kernel_rfl) (by kernel_rfl) (by kernel_rfl) (fun _ _ _ h => h) (Or.inl ⟨by rfl, ?_⟩) (by assumption) ?_
    rotate_left
    · (intro W hSw; (try dsimp only at hSw); obtain ⟨hs0S, hs1S⟩ := hSw; have c0_0 : W.cell? ⟨w.heap.size, 0, none⟩ = some (.bool true) := (BoxAt.cell hs0S 0).trans rfl; have c0_1 : W.cell? ⟨w.heap.size, 1, none⟩ = some (.int .i64 (v)) := (BoxAt.cell hs0S 1).trans rfl; have c0_2 : W.cell? ⟨w.heap.size, 2, none⟩ = some (.int .i64 (a)) := (BoxAt.cell hs0S 2).trans rfl; have c1_0 : W.cell? ⟨v1.heap.size, 0, none⟩ = some (.bool yk) := (BoxAt.cell hs1S 0).trans rfl; have c1_1 : W.cell? ⟨v1.heap.size, 1, none⟩ = some (.int .i64 (yv)) := (BoxAt.cell hs1S 1).trans rfl; have c1_2 : W.cell? ⟨v1.heap.size, 2, none⟩ = some (.int .i64 (ya)) := (BoxAt.cell hs1S 2).trans rfl; clear hs0S hs1S; go_simp; try with_reducible rfl)
    simp only [Act.put, List.setIfInBounds_toArray, List.set_cons_zero, List.set_cons_succ]
    refine wpAnyH_ready (rs := [22]) (by kernel_rfl) (by simp) (AllReadyH.cons (o := { dst := some 74, op := Op.call { callee := Callee.value (Operand.func 13), args := #[Operand.tmp 72, Operand.tmp 73], argTypes := #[23, 23] }, type := 23, pos := "law.go:26", after := _, guard := some (19, true) }) rfl (fun K1025 hK1025 => ?_) AllReadyH.nil)
    go_simp
    refine (carry_yes v a yk yv ya _).mono ?_
    rintro e v9 ⟨rfl, hb⟩
    have PB := hid (PB.out.belowAll hb)
    have TB := hid (TB.out.belowAll hb)
    have HB := hid (HB.out.trans (hb.mono HB.out.size))
    have hsv9 : v8.heap.size ≤ v9.heap.size := by first | exact hb.size | omega
    clear hb
    refine hK1025.out _ _ (⟨PB.out, TB.out⟩) (fun hHeld1025 => ?_)
    clear hK1025 K1025
    try simp only [Act.put, List.setIfInBounds_toArray, List.set_cons_zero, List.set_cons_succ]
    refine wpAnyH_ready (rs := [25]) (by kernel_rfl) (by simp) (AllReadyH.cons (o := { dst := some 77, op := Op.call { callee := Callee.value (Operand.func 14), args := #[Operand.tmp 75, Operand.tmp 76], argTypes := #[23, 23] }, type := 23, pos := "law.go:26", after := _, guard := some (19, true) }) rfl (fun K1026 hK1026 => ?_) AllReadyH.nil)
    go_simp
    refine (rcarry_yes v a yk yv ya _).mono ?_
    rintro e v10 ⟨rfl, hb⟩
    have PB := hid (PB.out.belowAll hb)
    have TB := hid (TB.out.belowAll hb)
    have HB := hid (HB.out.trans (hb.mono HB.out.size))
    have hsv10 : v9.heap.size ≤ v10.heap.size := by first | exact hb.size | omega
    clear hb
    refine hK1026.out _ _ (⟨PB.out, TB.out⟩) (fun hHeld1026 => ?_)
    clear hK1026 K1026
    try simp only [Act.put, List.setIfInBounds_toArray, List.set_cons_zero, List.set_cons_succ]
    refine wpAnyH_take (i := 26) (oi := { dst := some 78, op := Op.binOp BinOp.eql 23 (Operand.tmp 74) (Operand.tmp 77) 23, type := 4, pos := "law.go:26", after := _, guard := some (19, true) }) (v := ?_) rfl (by kernel_rfl) (by kernel_rfl) (by kernel_rfl) (fun _ _ _ h => h) (Or.inl ⟨by rfl, ?_⟩) (by assumption) ?_
    rotate_left
    · (intro W hSw; (try dsimp only at hSw); obtain ⟨hs0S, hs1S⟩ := hSw; clear hs0S hs1S; go_simp; try with_reducible rfl)
    simp only [Act.put, List.setIfInBounds_toArray, List.set_cons_zero, List.set_cons_succ]
    refine wpAnyH_take (i := 27) (oi := { dst := some 79, op := Op.pick (Operand.tmp 71) (Operand.tmp 78) (Operand.const (Value.bool false)), type := 4, pos := "law.go:26", after := _, guard := none }) (v := ?_) rfl (by kernel_rfl) (by kernel_rfl) (by kernel_rfl) (fun _ _ _ h => h) (Or.inl ⟨by rfl, ?_⟩) (by assumption) ?_
    rotate_left
    · (intro w hSw; (try dsimp only at hSw); go_simp; try with_reducible rfl)
    simp only [Act.put, List.setIfInBounds_toArray, List.set_cons_zero, List.set_cons_succ]
    refine wpAnyH_take (i := 28) (oi := { dst := some 10, op := Op.assign (Operand.tmp 79), type := 4, pos := "law.go:26", after := _, guard := none }) (v := ?_) rfl (by kernel_rfl) (by kernel_rfl) (by kernel_rfl) (fun _ _ _ h => h) (Or.inl ⟨by rfl, ?_⟩) (by assumption) ?_
    rotate_left
    · (intro w hSw; (try dsimp only at hSw); go_simp; try with_reducible rfl)
    simp only [Act.put, List.setIfInBounds_toArray, List.set_cons_zero, List.set_cons_succ]
    refine wpAnyH_done (by kernel_rfl) ?_ _
    clear hHeld hHeld1016 hHeld1017 hHeld1025 hHeld1026
    have kPB2 : v10.cell? ⟨w.heap.size, 2, none⟩ = some (.int .i64 (a)) := (BoxAt.cell PB.out 2).trans rfl
    go_wp2
    go_ret
    exact ⟨rfl, HB.out⟩

end Go.Proofs.Ytpajidiobifjoaa
