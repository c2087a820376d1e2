/-
  What has, Put, Get and Carry of a sample return, the program's and the document's.
-/
import Derived.Test.YtpajidiobifjoaaSpReg
import Derived.Deep.RegionHeld3
import Derived.Deep.RegionLaw
import Derived.BigQuiet
namespace Go.Proofs.Ytpajidiobifjoaa
open Go.RowKit
set_option linter.unusedVariables false


/-- The code that is read. -/
def getC (k : Bool) (a r now : Int) : Int := if k then (if wrap64 (a + r) < now then 1 else 0) else 2
/-- The value that is read. -/
def getV (k : Bool) (v : Int) : Int := if k then v else 0


set_option maxRecDepth 100000 in
set_option maxHeartbeats 1600000 in
theorem put_any (k : Bool) (v a x now : Int) (w : World) :
    Calls Try.prog 11 #[.agg #[.bool k, .int .i64 (v), .int .i64 (a)], .int .i64 (x), .int .i64 (now)] w fun e w' => e = .returned (.agg #[.bool true, .int .i64 (x), .int .i64 (now)]) ∧ Below w.heap.size w w' := by
  have HB := hid (Below.refl w.heap.size w)
  go_enter Try.func11, Try.ntmps11
  have FL1 := hid trivial
  have FL2 := hid trivial
  have FL3 := hid trivial
  go_wp2_with (first
    | (have hfl := FL1.out
       refine wpList_box rfl 23 (.tmp 0) rfl #[.bool k, .int .i64 (v), .int .i64 (a)] rfl ?_
       intro v1 b h z
       have PB := hid (show BoxAt v1 w.heap.size 23 #[.bool k, .int .i64 (v), .int .i64 (a)] from b)
       have HB := hid (HB.out.trans (h.mono HB.out.size))
       have hsv1 : w.heap.size + 1 ≤ v1.heap.size := by first | exact h.size | omega
       clear b h z hfl FL1)
    | (have hfl := FL2.out
       refine wpList_new rfl 23 rfl _ Try.zeroSp ?_
       intro v2 b h z
       have RB := hid (show BoxAt v2 v1.heap.size 23 #[.bool false, .int .i64 0, .int .i64 0] from b)
       have PB := hid (PB.out.belowAll h)
       have HB := hid (HB.out.trans (h.mono HB.out.size))
       have hsv2 : v1.heap.size + 1 ≤ v2.heap.size := by first | exact h.size | omega
       clear b h z hfl FL2)
    | (have hfl := FL3.out
       refine wpList_store_whole rfl 23 _ _ rfl rfl (v1.heap.size) rfl [.bool true, .int .i64 (x), .int .i64 (now)] rfl _ _ RB.out rfl Try.infoSp (by simp [Value.oneCell']) ?_
       intro v3 b g z
       have hsv3 : v2.heap.size ≤ v3.heap.size := by omega
       have RB := hid (show BoxAt v3 (v1.heap.size) 23 #[.bool true, .int .i64 (x), .int .i64 (now)] from b)
       have PB := hid (PB.out.grown g (fun e => by have := Option.some.inj e; omega))
       have HB := hid (HB.out.trans (grown_below g (by omega) (by omega)))
       clear b g z hfl FL3)
    | fail)
  refine bodyPost_ret (results_cell_row rfl _ _ (v1.heap.size) 23 _ (0, 0) _ rfl RB.out Try.underlying23 rfl Try.infoSp) rfl ?_
  exact ⟨rfl, HB.out⟩

set_option maxRecDepth 100000 in
set_option maxHeartbeats 1600000 in
theorem has_yes (v a : Int) (w : World) :
    Calls Try.prog 15 #[.agg #[.bool true, .int .i64 (v), .int .i64 (a)]] w fun e w' => e = .returned (.bool true) ∧ Below w.heap.size w w' := by
  have ev : (v == v) = true := by simp
  have ea : (a == a) = true := by simp
  have HB := hid (Below.refl w.heap.size w)
  go_enter Try.func15, Try.ntmps15
  have FL1 := hid trivial
  go_wp2_with (first
    | (have hfl := FL1.out
       refine wpList_box rfl 23 (.tmp 0) rfl #[.bool true, .int .i64 (v), .int .i64 (a)] rfl ?_
       intro v1 b h z
       have PB := hid (show BoxAt v1 w.heap.size 23 #[.bool true, .int .i64 (v), .int .i64 (a)] from b)
       have HB := hid (HB.out.trans (h.mono HB.out.size))
       have hsv1 : w.heap.size + 1 ≤ v1.heap.size := by first | exact h.size | omega
       clear b h z hfl FL1
       refine Hid.out ?_)
    | fail)
  refine hid ?_
  go_wp2_with fail
  have PB := hid (BoxAt.drew PB.out)
  have HB := hid (HB.out.drew)
  have hsv2 : v1.heap.size ≤ v1.drew.heap.size := Nat.le_refl _
  refine wp_region_held_drew (S := (fun w' : World => BoxAt w' (w.heap.size) 23 #[.bool true, .int .i64 (v), .int .i64 (a)])) (by kernel_rfl) (PB.out) (fun hHeld => ?_)
  generalize v1.drew = v2 at *
  refine wpAnyH_take (i := 0) (oi := { dst := some 3, op := Op.load 23 (Operand.tmp 1), type := 23, pos := "sample.go:31", after := _, guard := none }) (v := ?_) rfl (by kernel_rfl) (by kernel_rfl) (by kernel_rfl) (fun _ _ _ h => h) (Or.inl ⟨by rfl, ?_⟩) (by assumption) ?_
  rotate_left
  · (intro W hSw; (try dsimp only at hSw); have hs0S := hSw; have c0_0 : W.cell? ⟨w.heap.size, 0, none⟩ = some (.bool true) := (BoxAt.cell hs0S 0).trans rfl; have c0_1 : W.cell? ⟨w.heap.size, 1, none⟩ = some (.int .i64 (v)) := (BoxAt.cell hs0S 1).trans rfl; have c0_2 : W.cell? ⟨w.heap.size, 2, none⟩ = some (.int .i64 (a)) := (BoxAt.cell hs0S 2).trans rfl; clear hs0S; go_simp; try with_reducible rfl)
  simp only [Act.put, List.setIfInBounds_toArray, List.set_cons_zero, List.set_cons_succ]
  refine wpAnyH_take (i := 1) (oi := { dst := some 4, op := Op.load 23 (Operand.tmp 1), type := 23, pos := "sample.go:31", after := _, guard := none }) (v := ?_) rfl (by kernel_rfl) (by kernel_rfl) (by kernel_rfl) (fun _ _ _ h => h) (Or.inl ⟨by rfl, ?_⟩) (by assumption) ?_
  rotate_left
  · (intro W hSw; (try dsimp only at hSw); have hs0S := hSw; have c0_0 : W.cell? ⟨w.heap.size, 0, none⟩ = some (.bool true) := (BoxAt.cell hs0S 0).trans rfl; have c0_1 : W.cell? ⟨w.heap.size, 1, none⟩ = some (.int .i64 (v)) := (BoxAt.cell hs0S 1).trans rfl; have c0_2 : W.cell? ⟨w.heap.size, 2, none⟩ = some (.int .i64 (a)) := (BoxAt.cell hs0S 2).trans rfl; clear hs0S; go_simp; try with_reducible rfl)
  simp only [Act.put, List.setIfInBounds_toArray, List.set_cons_zero, List.set_cons_succ]
  refine wpAnyH_take (i := 2) (oi := { dst := some 5, op := Op.fieldAddr 23 (Operand.tmp 1) 1, type := 0, pos := "sample.go:31", after := _, guard := none }) (v := ?_) rfl (by kernel_rfl) (by kernel_rfl) (by kernel_rfl) (fun _ _ _ h => h) (Or.inl ⟨by rfl, ?_⟩) (by assumption) ?_
  rotate_left
  · (intro w hSw; (try dsimp only at hSw); go_simp; try with_reducible rfl)
  simp only [Act.put, List.setIfInBounds_toArray, List.set_cons_zero, List.set_cons_succ]
  refine wpAnyH_take (i := 3) (oi := { dst := some 6, op := Op.load 3 (Operand.tmp 5), type := 3, pos := "sample.go:31", after := _, guard := none }) (v := ?_) rfl (by kernel_rfl) (by kernel_rfl) (by kernel_rfl) (fun _ _ _ h => h) (Or.inl ⟨by rfl, ?_⟩) (by assumption) ?_
  rotate_left
  · (intro W hSw; (try dsimp only at hSw); have hs0S := hSw; have c0_0 : W.cell? ⟨w.heap.size, 0, none⟩ = some (.bool true) := (BoxAt.cell hs0S 0).trans rfl; have c0_1 : W.cell? ⟨w.heap.size, 1, none⟩ = some (.int .i64 (v)) := (BoxAt.cell hs0S 1).trans rfl; have c0_2 : W.cell? ⟨w.heap.size, 2, none⟩ = some (.int .i64 (a)) := (BoxAt.cell hs0S 2).trans rfl; clear hs0S; go_simp; try with_reducible rfl)
  simp only [Act.put, List.setIfInBounds_toArray, List.set_cons_zero, List.set_cons_succ]
  refine wpAnyH_take (i := 4) (oi := { dst := some 7, op := Op.fieldAddr 23 (Operand.tmp 1) 2, type := 0, pos := "sample.go:31", after := _, guard := none }) (v := ?_) rfl (by kernel_rfl) (by kernel_rfl) (by kernel_rfl) (fun _ _ _ h => h) (Or.inl ⟨by rfl, ?_⟩) (by assumption) ?_
  rotate_left
  · (intro w hSw; (try dsimp only at hSw); go_simp; try with_reducible rfl)
  simp only [Act.put, List.setIfInBounds_toArray, List.set_cons_zero, List.set_cons_succ]
  refine wpAnyH_take (i := 5) (oi := { dst := some 8, op := Op.load 3 (Operand.tmp 7), type := 3, pos := "sample.go:31", after := _, guard := none }) (v := ?_) rfl (by kernel_rfl) (by kernel_rfl) (by kernel_rfl) (fun _ _ _ h => h) (Or.inl ⟨by rfl, ?_⟩) (by assumption) ?_
  rotate_left
  · (intro W hSw; (try dsimp only at hSw); have hs0S := hSw; have c0_0 : W.cell? ⟨w.heap.size, 0, none⟩ = some (.bool true) := (BoxAt.cell hs0S 0).trans rfl; have c0_1 : W.cell? ⟨w.heap.size, 1, none⟩ = some (.int .i64 (v)) := (BoxAt.cell hs0S 1).trans rfl; have c0_2 : W.cell? ⟨w.heap.size, 2, none⟩ = some (.int .i64 (a)) := (BoxAt.cell hs0S 2).trans rfl; clear hs0S; go_simp; try with_reducible rfl)
  simp only [Act.put, List.setIfInBounds_toArray, List.set_cons_zero, List.set_cons_succ]
  refine wpAnyH_ready (rs := [6]) (by kernel_rfl) (by simp) (AllReadyH.cons (o := { dst := some 9, op := Op.call { callee := Callee.value (Operand.func 11), args := #[Operand.tmp 4, Operand.tmp 6, Operand.tmp 8], argTypes := #[23, 3, 3] }, type := 23, pos := "sample.go:31", after := _, guard := none }) rfl (fun K1007 hK1007 => ?_) AllReadyH.nil)
  go_simp
  refine (put_any true v a v a _).mono ?_
  rintro e v3 ⟨rfl, hb⟩
  have PB := hid (PB.out.belowAll hb)
  have HB := hid (HB.out.trans (hb.mono HB.out.size))
  have hsv3 : v2.heap.size ≤ v3.heap.size := by first | exact hb.size | omega
  clear hb
  refine hK1007.out _ _ (PB.out) (fun hHeld1007 => ?_)
  clear hK1007 K1007
  try simp only [Act.put, List.setIfInBounds_toArray, List.set_cons_zero, List.set_cons_succ]
  refine wpAnyH_take (i := 7) (oi := { dst := some 10, op := Op.binOp BinOp.eql 23 (Operand.tmp 3) (Operand.tmp 9) 23, type := 4, pos := "sample.go:31", after := _, guard := none }) (v := ?_) rfl (by kernel_rfl) (by kernel_rfl) (by kernel_rfl) (fun _ _ _ h => h) (Or.inl ⟨by rfl, ?_⟩) (by assumption) ?_
  rotate_left
  · (intro W hSw; (try dsimp only at hSw); have hs0S := hSw; clear hs0S; go_simp; try with_reducible rfl)
  simp only [Act.put, List.setIfInBounds_toArray, List.set_cons_zero, List.set_cons_succ]
  refine wpAnyH_take (i := 8) (oi := { dst := some 2, op := Op.assign (Operand.tmp 10), type := 4, pos := "sample.go:31", after := _, guard := none }) (v := ?_) rfl (by kernel_rfl) (by kernel_rfl) (by kernel_rfl) (fun _ _ _ h => h) (Or.inl ⟨by rfl, ?_⟩) (by assumption) ?_
  rotate_left
  · (intro w hSw; (try dsimp only at hSw); go_simp; try with_reducible rfl)
  simp only [Act.put, List.setIfInBounds_toArray, List.set_cons_zero, List.set_cons_succ]
  refine wpAnyH_done (by kernel_rfl) ?_ _
  clear hHeld hHeld1007
  go_wp2
  go_ret
  exact ⟨rfl, HB.out⟩

set_option maxRecDepth 100000 in
set_option maxHeartbeats 1600000 in
theorem has_no (v a : Int) (w : World) :
    Calls Try.prog 15 #[.agg #[.bool false, .int .i64 (v), .int .i64 (a)]] w fun e w' => e = .returned (.bool false) ∧ Below w.heap.size w w' := by
  have ev : (v == v) = true := by simp
  have ea : (a == a) = true := by simp
  have HB := hid (Below.refl w.heap.size w)
  go_enter Try.func15, Try.ntmps15
  have FL1 := hid trivial
  go_wp2_with (first
    | (have hfl := FL1.out
       refine wpList_box rfl 23 (.tmp 0) rfl #[.bool false, .int .i64 (v), .int .i64 (a)] rfl ?_
       intro v1 b h z
       have PB := hid (show BoxAt v1 w.heap.size 23 #[.bool false, .int .i64 (v), .int .i64 (a)] from b)
       have HB := hid (HB.out.trans (h.mono HB.out.size))
       have hsv1 : w.heap.size + 1 ≤ v1.heap.size := by first | exact h.size | omega
       clear b h z hfl FL1
       refine Hid.out ?_)
    | fail)
  refine hid ?_
  go_wp2_with fail
  have PB := hid (BoxAt.drew PB.out)
  have HB := hid (HB.out.drew)
  have hsv2 : v1.heap.size ≤ v1.drew.heap.size := Nat.le_refl _
  refine wp_region_held_drew (S := (fun w' : World => BoxAt w' (w.heap.size) 23 #[.bool false, .int .i64 (v), .int .i64 (a)])) (by kernel_rfl) (PB.out) (fun hHeld => ?_)
  generalize v1.drew = v2 at *
  refine wpAnyH_take (i := 0) (oi := { dst := some 3, op := Op.load 23 (Operand.tmp 1), type := 23, pos := "sample.go:31", after := _, guard := none }) (v := ?_) rfl (by kernel_rfl) (by kernel_rfl) (by kernel_rfl) (fun _ _ _ h => h) (Or.inl ⟨by rfl, ?_⟩) (by assumption) ?_
  rotate_left
  · (intro W hSw; (try dsimp only at hSw); have hs0S := hSw; have c0_0 : W.cell? ⟨w.heap.size, 0, none⟩ = some (.bool false) := (BoxAt.cell hs0S 0).trans rfl; have c0_1 : W.cell? ⟨w.heap.size, 1, none⟩ = some (.int .i64 (v)) := (BoxAt.cell hs0S 1).trans rfl; have c0_2 : W.cell? ⟨w.heap.size, 2, none⟩ = some (.int .i64 (a)) := (BoxAt.cell hs0S 2).trans rfl; clear hs0S; go_simp; try with_reducible rfl)
  simp only [Act.put, List.setIfInBounds_toArray, List.set_cons_zero, List.set_cons_succ]
  refine wpAnyH_take (i := 1) (oi := { dst := some 4, op := Op.load 23 (Operand.tmp 1), type := 23, pos := "sample.go:31", after := _, guard := none }) (v := ?_) rfl (by kernel_rfl) (by kernel_rfl) (by kernel_rfl) (fun _ _ _ h => h) (Or.inl ⟨by rfl, ?_⟩) (by assumption) ?_
  rotate_left
  · (intro W hSw; (try dsimp only at hSw); have hs0S := hSw; have c0_0 : W.cell? ⟨w.heap.size, 0, none⟩ = some (.bool false) := (BoxAt.cell hs0S 0).trans rfl; have c0_1 : W.cell? ⟨w.heap.size, 1, none⟩ = some (.int .i64 (v)) := (BoxAt.cell hs0S 1).trans rfl; have c0_2 : W.cell? ⟨w.heap.size, 2, none⟩ = some (.int .i64 (a)) := (BoxAt.cell hs0S 2).trans rfl; clear hs0S; go_simp; try with_reducible rfl)
  simp only [Act.put, List.setIfInBounds_toArray, List.set_cons_zero, List.set_cons_succ]
  refine wpAnyH_take (i := 2) (oi := { dst := some 5, op := Op.fieldAddr 23 (Operand.tmp 1) 1, type := 0, pos := "sample.go:31", after := _, guard := none }) (v := ?_) rfl (by kernel_rfl) (by kernel_rfl) (by kernel_rfl) (fun _ _ _ h => h) (Or.inl ⟨by rfl, ?_⟩) (by assumption) ?_
  rotate_left
  · (intro w hSw; (try dsimp only at hSw); go_simp; try with_reducible rfl)
  simp only [Act.put, List.setIfInBounds_toArray, List.set_cons_zero, List.set_cons_succ]
  refine wpAnyH_take (i := 3) (oi := { dst := some 6, op := Op.load 3 (Operand.tmp 5), type := 3, pos := "sample.go:31", after := _, guard := none }) (v := ?_) rfl (by kernel_rfl) (by kernel_rfl) (by kernel_rfl) (fun _ _ _ h => h) (Or.inl ⟨by rfl, ?_⟩) (by assumption) ?_
  rotate_left
  · (intro W hSw; (try dsimp only at hSw); have hs0S := hSw; have c0_0 : W.cell? ⟨w.heap.size, 0, none⟩ = some (.bool false) := (BoxAt.cell hs0S 0).trans rfl; have c0_1 : W.cell? ⟨w.heap.size, 1, none⟩ = some (.int .i64 (v)) := (BoxAt.cell hs0S 1).trans rfl; have c0_2 : W.cell? ⟨w.heap.size, 2, none⟩ = some (.int .i64 (a)) := (BoxAt.cell hs0S 2).trans rfl; clear hs0S; go_simp; try with_reducible rfl)
  simp only [Act.put, List.setIfInBounds_toArray, List.set_cons_zero, List.set_cons_succ]
  refine wpAnyH_take (i := 4) (oi := { dst := some 7, op := Op.fieldAddr 23 (Operand.tmp 1) 2, type := 0, pos := "sample.go:31", after := _, guard := none }) (v := ?_) rfl (by kernel_rfl) (by kernel_rfl) (by kernel_rfl) (fun _ _ _ h => h) (Or.inl ⟨by rfl, ?_⟩) (by assumption) ?_
  rotate_left
  · (intro w hSw; (try dsimp only at hSw); go_simp; try with_reducible rfl)
  simp only [Act.put, List.setIfInBounds_toArray, List.set_cons_zero, List.set_cons_succ]
  refine wpAnyH_take (i := 5) (oi := { dst := some 8, op := Op.load 3 (Operand.tmp 7), type := 3, pos := "sample.go:31", after := _, guard := none }) (v := ?_) rfl (by kernel_rfl) (by kernel_rfl) (by kernel_rfl) (fun _ _ _ h => h) (Or.inl ⟨by rfl, ?_⟩) (by assumption) ?_
  rotate_left
  · (intro W hSw; (try dsimp only at hSw); have hs0S := hSw; have c0_0 : W.cell? ⟨w.heap.size, 0, none⟩ = some (.bool false) := (BoxAt.cell hs0S 0).trans rfl; have c0_1 : W.cell? ⟨w.heap.size, 1, none⟩ = some (.int .i64 (v)) := (BoxAt.cell hs0S 1).trans rfl; have c0_2 : W.cell? ⟨w.heap.size, 2, none⟩ = some (.int .i64 (a)) := (BoxAt.cell hs0S 2).trans rfl; clear hs0S; go_simp; try with_reducible rfl)
  simp only [Act.put, List.setIfInBounds_toArray, List.set_cons_zero, List.set_cons_succ]
  refine wpAnyH_ready (rs := [6]) (by kernel_rfl) (by simp) (AllReadyH.cons (o := { dst := some 9, op := Op.call { callee := Callee.value (Operand.func 11), args := #[Operand.tmp 4, Operand.tmp 6, Operand.tmp 8], argTypes := #[23, 3, 3] }, type := 23, pos := "sample.go:31", after := _, guard := none }) rfl (fun K1007 hK1007 => ?_) AllReadyH.nil)
  go_simp
  refine (put_any false v a v a _).mono ?_
  rintro e v3 ⟨rfl, hb⟩
  have PB := hid (PB.out.belowAll hb)
  have HB := hid (HB.out.trans (hb.mono HB.out.size))
  have hsv3 : v2.heap.size ≤ v3.heap.size := by first | exact hb.size | omega
  clear hb
  refine hK1007.out _ _ (PB.out) (fun hHeld1007 => ?_)
  clear hK1007 K1007
  try simp only [Act.put, List.setIfInBounds_toArray, List.set_cons_zero, List.set_cons_succ]
  refine wpAnyH_take (i := 7) (oi := { dst := some 10, op := Op.binOp BinOp.eql 23 (Operand.tmp 3) (Operand.tmp 9) 23, type := 4, pos := "sample.go:31", after := _, guard := none }) (v := ?_) rfl (by kernel_rfl) (by kernel_rfl) (by kernel_rfl) (fun _ _ _ h => h) (Or.inl ⟨by rfl, ?_⟩) (by assumption) ?_
  rotate_left
  · (intro W hSw; (try dsimp only at hSw); have hs0S := hSw; clear hs0S; go_simp; try with_reducible rfl)
  simp only [Act.put, List.setIfInBounds_toArray, List.set_cons_zero, List.set_cons_succ]
  refine wpAnyH_take (i := 8) (oi := { dst := some 2, op := Op.assign (Operand.tmp 10), type := 4, pos := "sample.go:31", after := _, guard := none }) (v := ?_) rfl (by kernel_rfl) (by kernel_rfl) (by kernel_rfl) (fun _ _ _ h => h) (Or.inl ⟨by rfl, ?_⟩) (by assumption) ?_
  rotate_left
  · (intro w hSw; (try dsimp only at hSw); go_simp; try with_reducible rfl)
  simp only [Act.put, List.setIfInBounds_toArray, List.set_cons_zero, List.set_cons_succ]
  refine wpAnyH_done (by kernel_rfl) ?_ _
  clear hHeld hHeld1007
  go_wp2
  go_ret
  exact ⟨rfl, HB.out⟩

set_option maxRecDepth 100000 in
set_option maxHeartbeats 1600000 in
theorem get_none (v a r now : Int) (w : World) :
    Calls Try.prog 9 #[.agg #[.bool false, .int .i64 (v), .int .i64 (a)], .int .i64 (r), .int .i64 (now)] w fun e w' => e = .returned (.tuple #[.int .i64 (2), .int .i64 (0)]) ∧ Below w.heap.size w w' := by
  have HB := hid (Below.refl w.heap.size w)
  go_enter Try.func9, Try.ntmps9
  have FL1 := hid trivial
  go_wp2_with (first
    | (have hfl := FL1.out
       refine wpList_box rfl 23 (.tmp 0) rfl #[.bool false, .int .i64 (v), .int .i64 (a)] rfl ?_
       intro v1 b h z
       have PB := hid (show BoxAt v1 w.heap.size 23 #[.bool false, .int .i64 (v), .int .i64 (a)] from b)
       have HB := hid (HB.out.trans (h.mono HB.out.size))
       have hsv1 : w.heap.size + 1 ≤ v1.heap.size := by first | exact h.size | omega
       clear b h z hfl FL1)
    | (refine wpList_load_box rfl 23 _ rfl (w.heap.size) rfl _ _ PB.out _ Try.underlying23 Try.infoSp ?_)
    | fail)
  refine (has_no v a _).mono ?_
  rintro e v2 ⟨rfl, hb⟩
  have PB := hid (PB.out.belowAll hb)
  have HB := hid (HB.out.trans (hb.mono HB.out.size))
  have hsv2 : v1.heap.size ≤ v2.heap.size := by first | exact hb.size | omega
  have kPB2 : v2.cell? ⟨w.heap.size, 2, none⟩ = some (.int .i64 (a)) := (BoxAt.cell PB.out 2).trans rfl
  clear hb
  go_wp2
  go_wp2
  go_ret2
  exact ⟨rfl, HB.out⟩

set_option maxRecDepth 100000 in
set_option maxHeartbeats 1600000 in
theorem get_late (v a r now : Int) (h : wrap64 (a + r) < now) (w : World) :
    Calls Try.prog 9 #[.agg #[.bool true, .int .i64 (v), .int .i64 (a)], .int .i64 (r), .int .i64 (now)] w fun e w' => e = .returned (.tuple #[.int .i64 (1), .int .i64 (v)]) ∧ Below w.heap.size w w' := by
  have H := hid h
  clear h
  obtain ⟨E, hE⟩ : ∃ E, wrap64 (a + r) = E := ⟨_, rfl⟩
  have h := H.out
  rw [hE] at h
  clear H
  have HB := hid (Below.refl w.heap.size w)
  go_enter Try.func9, Try.ntmps9
  have FL1 := hid trivial
  go_wp2_with (first
    | (have hfl := FL1.out
       refine wpList_box rfl 23 (.tmp 0) rfl #[.bool true, .int .i64 (v), .int .i64 (a)] rfl ?_
       intro v1 b h z
       have PB := hid (show BoxAt v1 w.heap.size 23 #[.bool true, .int .i64 (v), .int .i64 (a)] from b)
       have HB := hid (HB.out.trans (h.mono HB.out.size))
       have hsv1 : w.heap.size + 1 ≤ v1.heap.size := by first | exact h.size | omega
       clear b h z hfl FL1)
    | (refine wpList_load_box rfl 23 _ rfl (w.heap.size) rfl _ _ PB.out _ Try.underlying23 Try.infoSp ?_)
    | fail)
  refine (has_yes v a _).mono ?_
  rintro e v2 ⟨rfl, hb⟩
  have PB := hid (PB.out.belowAll hb)
  have HB := hid (HB.out.trans (hb.mono HB.out.size))
  have hsv2 : v1.heap.size ≤ v2.heap.size := by first | exact hb.size | omega
  have kPB2 : v2.cell? ⟨w.heap.size, 2, none⟩ = some (.int .i64 (a)) := (BoxAt.cell PB.out 2).trans rfl
  clear hb
  go_wp2_with fail
  clear kPB2
  have PB := hid (BoxAt.drew PB.out)
  have HB := hid (HB.out.drew)
  have hsv3 : v2.heap.size ≤ v2.drew.heap.size := Nat.le_refl _
  refine wp_region_held_drew (S := (fun w' : World => BoxAt w' (w.heap.size) 23 #[.bool true, .int .i64 (v), .int .i64 (a)])) (by kernel_rfl) (PB.out) (fun hHeld => ?_)
  generalize v2.drew = v3 at *
  refine wpAnyH_take (i := 0) (oi := { dst := some 19, op := Op.fieldAddr 23 (Operand.tmp 3) 1, type := 0, pos := "sample.go:16", after := _, guard := none }) (v := ?_) rfl (by kernel_rfl) (by kernel_rfl) (by kernel_rfl) (fun _ _ _ h => h) (Or.inl ⟨by rfl, ?_⟩) (by assumption) ?_
  rotate_left
  · (intro w hSw; (try dsimp only at hSw); go_simp; try with_reducible rfl)
  simp only [Act.put, List.setIfInBounds_toArray, List.set_cons_zero, List.set_cons_succ]
  refine wpAnyH_take (i := 1) (oi := { dst := some 20, op := Op.load 3 (Operand.tmp 19), type := 3, pos := "sample.go:16", after := _, guard := none }) (v := ?_) rfl (by kernel_rfl) (by kernel_rfl) (by kernel_rfl) (fun _ _ _ h => h) (Or.inl ⟨by rfl, ?_⟩) (by assumption) ?_
  rotate_left
  · (intro W hSw; (try dsimp only at hSw); have hs0S := hSw; have c0_0 : W.cell? ⟨w.heap.size, 0, none⟩ = some (.bool true) := (BoxAt.cell hs0S 0).trans rfl; have c0_1 : W.cell? ⟨w.heap.size, 1, none⟩ = some (.int .i64 (v)) := (BoxAt.cell hs0S 1).trans rfl; have c0_2 : W.cell? ⟨w.heap.size, 2, none⟩ = some (.int .i64 (a)) := (BoxAt.cell hs0S 2).trans rfl; clear hs0S; go_simp; try with_reducible rfl)
  simp only [Act.put, List.setIfInBounds_toArray, List.set_cons_zero, List.set_cons_succ]
  refine wpAnyH_take (i := 2) (oi := { dst := some 6, op := Op.assign (Operand.const (Value.int IntKind.i64 1)), type := 3, pos := "sample.go:16", after := _, guard := none }) (v := ?_) rfl (by kernel_rfl) (by kernel_rfl) (by kernel_rfl) (fun _ _ _ h => h) (Or.inl ⟨by rfl, ?_⟩) (by assumption) ?_
  rotate_left
  · (intro w hSw; (try dsimp only at hSw); go_simp; try with_reducible rfl)
  simp only [Act.put, List.setIfInBounds_toArray, List.set_cons_zero, List.set_cons_succ]
  refine wpAnyH_take (i := 3) (oi := { dst := some 7, op := Op.assign (Operand.tmp 20), type := 3, pos := "sample.go:16", after := _, guard := none }) (v := ?_) rfl (by kernel_rfl) (by kernel_rfl) (by kernel_rfl) (fun _ _ _ h => h) (Or.inl ⟨by rfl, ?_⟩) (by assumption) ?_
  rotate_left
  · (intro w hSw; (try dsimp only at hSw); go_simp; try with_reducible rfl)
  simp only [Act.put, List.setIfInBounds_toArray, List.set_cons_zero, List.set_cons_succ]
  refine wpAnyH_done (by kernel_rfl) ?_ _
  clear hHeld
  have kPB2 : v3.cell? ⟨w.heap.size, 2, none⟩ = some (.int .i64 (a)) := (BoxAt.cell PB.out 2).trans rfl
  go_wp2
  go_ret2
  exact ⟨rfl, HB.out⟩

set_option maxRecDepth 100000 in
set_option maxHeartbeats 1600000 in
theorem get_good (v a r now : Int) (h : ¬ wrap64 (a + r) < now) (w : World) :
    Calls Try.prog 9 #[.agg #[.bool true, .int .i64 (v), .int .i64 (a)], .int .i64 (r), .int .i64 (now)] w fun e w' => e = .returned (.tuple #[.int .i64 (0), .int .i64 (v)]) ∧ Below w.heap.size w w' := by
  have H := hid h
  clear h
  obtain ⟨E, hE⟩ : ∃ E, wrap64 (a + r) = E := ⟨_, rfl⟩
  have h := H.out
  rw [hE] at h
  clear H
  have HB := hid (Below.refl w.heap.size w)
  go_enter Try.func9, Try.ntmps9
  have FL1 := hid trivial
  go_wp2_with (first
    | (have hfl := FL1.out
       refine wpList_box rfl 23 (.tmp 0) rfl #[.bool true, .int .i64 (v), .int .i64 (a)] rfl ?_
       intro v1 b h z
       have PB := hid (show BoxAt v1 w.heap.size 23 #[.bool true, .int .i64 (v), .int .i64 (a)] from b)
       have HB := hid (HB.out.trans (h.mono HB.out.size))
       have hsv1 : w.heap.size + 1 ≤ v1.heap.size := by first | exact h.size | omega
       clear b h z hfl FL1)
    | (refine wpList_load_box rfl 23 _ rfl (w.heap.size) rfl _ _ PB.out _ Try.underlying23 Try.infoSp ?_)
    | fail)
  refine (has_yes v a _).mono ?_
  rintro e v2 ⟨rfl, hb⟩
  have PB := hid (PB.out.belowAll hb)
  have HB := hid (HB.out.trans (hb.mono HB.out.size))
  have hsv2 : v1.heap.size ≤ v2.heap.size := by first | exact hb.size | omega
  have kPB2 : v2.cell? ⟨w.heap.size, 2, none⟩ = some (.int .i64 (a)) := (BoxAt.cell PB.out 2).trans rfl
  clear hb
  go_wp2_with fail
  clear kPB2
  have PB := hid (BoxAt.drew PB.out)
  have HB := hid (HB.out.drew)
  have hsv3 : v2.heap.size ≤ v2.drew.heap.size := Nat.le_refl _
  refine wp_region_held_drew (S := (fun w' : World => BoxAt w' (w.heap.size) 23 #[.bool true, .int .i64 (v), .int .i64 (a)])) (by kernel_rfl) (PB.out) (fun hHeld => ?_)
  generalize v2.drew = v3 at *
  refine wpAnyH_take (i := 0) (oi := { dst := some 21, op := Op.fieldAddr 23 (Operand.tmp 3) 1, type := 0, pos := "sample.go:18", after := _, guard := none }) (v := ?_) rfl (by kernel_rfl) (by kernel_rfl) (by kernel_rfl) (fun _ _ _ h => h) (Or.inl ⟨by rfl, ?_⟩) (by assumption) ?_
  rotate_left
  · (intro w hSw; (try dsimp only at hSw); go_simp; try with_reducible rfl)
  simp only [Act.put, List.setIfInBounds_toArray, List.set_cons_zero, List.set_cons_succ]
  refine wpAnyH_take (i := 1) (oi := { dst := some 22, op := Op.load 3 (Operand.tmp 21), type := 3, pos := "sample.go:18", after := _, guard := none }) (v := ?_) rfl (by kernel_rfl) (by kernel_rfl) (by kernel_rfl) (fun _ _ _ h => h) (Or.inl ⟨by rfl, ?_⟩) (by assumption) ?_
  rotate_left
  · (intro W hSw; (try dsimp only at hSw); have hs0S := hSw; have c0_0 : W.cell? ⟨w.heap.size, 0, none⟩ = some (.bool true) := (BoxAt.cell hs0S 0).trans rfl; have c0_1 : W.cell? ⟨w.heap.size, 1, none⟩ = some (.int .i64 (v)) := (BoxAt.cell hs0S 1).trans rfl; have c0_2 : W.cell? ⟨w.heap.size, 2, none⟩ = some (.int .i64 (a)) := (BoxAt.cell hs0S 2).trans rfl; clear hs0S; go_simp; try with_reducible rfl)
  simp only [Act.put, List.setIfInBounds_toArray, List.set_cons_zero, List.set_cons_succ]
  refine wpAnyH_take (i := 2) (oi := { dst := some 6, op := Op.assign (Operand.const (Value.int IntKind.i64 0)), type := 3, pos := "sample.go:18", after := _, guard := none }) (v := ?_) rfl (by kernel_rfl) (by kernel_rfl) (by kernel_rfl) (fun _ _ _ h => h) (Or.inl ⟨by rfl, ?_⟩) (by assumption) ?_
  rotate_left
  · (intro w hSw; (try dsimp only at hSw); go_simp; try with_reducible rfl)
  simp only [Act.put, List.setIfInBounds_toArray, List.set_cons_zero, List.set_cons_succ]
  refine wpAnyH_take (i := 3) (oi := { dst := some 7, op := Op.assign (Operand.tmp 22), type := 3, pos := "sample.go:18", after := _, guard := none }) (v := ?_) rfl (by kernel_rfl) (by kernel_rfl) (by kernel_rfl) (fun _ _ _ h => h) (Or.inl ⟨by rfl, ?_⟩) (by assumption) ?_
  rotate_left
  · (intro w hSw; (try dsimp only at hSw); go_simp; try with_reducible rfl)
  simp only [Act.put, List.setIfInBounds_toArray, List.set_cons_zero, List.set_cons_succ]
  refine wpAnyH_done (by kernel_rfl) ?_ _
  clear hHeld
  have kPB2 : v3.cell? ⟨w.heap.size, 2, none⟩ = some (.int .i64 (a)) := (BoxAt.cell PB.out 2).trans rfl
  go_wp2
  go_ret2
  exact ⟨rfl, HB.out⟩

theorem get_any (k : Bool) (v a r now : Int) (w : World) :
    Calls Try.prog 9 #[.agg #[.bool k, .int .i64 (v), .int .i64 (a)], .int .i64 (r), .int .i64 (now)] w fun e w' => e = .returned (.tuple #[.int .i64 (getC k a r now), .int .i64 (getV k v)]) ∧ Below w.heap.size w w' := by
  unfold getC getV
  cases k
  · exact get_none v a r now w
  · by_cases h : wrap64 (a + r) < now
    · rw [if_pos rfl, if_pos h]
      exact get_late v a r now h w
    · rw [if_pos rfl, if_neg h]
      exact get_good v a r now h w


set_option maxRecDepth 100000 in
set_option maxHeartbeats 1600000 in
theorem rget_none (v a r now : Int) (w : World) :
    Calls Try.prog 10 #[.agg #[.bool false, .int .i64 (v), .int .i64 (a)], .int .i64 (r), .int .i64 (now)] w fun e w' => e = .returned (.tuple #[.int .i64 (2), .int .i64 (0)]) ∧ Below w.heap.size w w' := by
  have HB := hid (Below.refl w.heap.size w)
  go_enter Try.func10, Try.ntmps10
  have FL1 := hid trivial
  go_wp2_with (first
    | (have hfl := FL1.out
       refine wpList_box rfl 23 (.tmp 0) rfl #[.bool false, .int .i64 (v), .int .i64 (a)] rfl ?_
       intro v1 b h z
       have PB := hid (show BoxAt v1 w.heap.size 23 #[.bool false, .int .i64 (v), .int .i64 (a)] from b)
       have HB := hid (HB.out.trans (h.mono HB.out.size))
       have hsv1 : w.heap.size + 1 ≤ v1.heap.size := by first | exact h.size | omega
       clear b h z hfl FL1
       refine Hid.out ?_)
    | fail)
  refine hid ?_
  have kPB0 : v1.cell? ⟨w.heap.size, 0, none⟩ = some (.bool false) := (BoxAt.cell PB.out 0).trans rfl
  have kPB2 : v1.cell? ⟨w.heap.size, 2, none⟩ = some (.int .i64 (a)) := (BoxAt.cell PB.out 2).trans rfl
  go_wp2
  go_wp2
  go_ret2
  exact ⟨rfl, HB.out⟩

set_option maxRecDepth 100000 in
set_option maxHeartbeats 1600000 in
theorem rget_late (v a r now : Int) (h : wrap64 (a + r) < now) (w : World) :
    Calls Try.prog 10 #[.agg #[.bool true, .int .i64 (v), .int .i64 (a)], .int .i64 (r), .int .i64 (now)] w fun e w' => e = .returned (.tuple #[.int .i64 (1), .int .i64 (v)]) ∧ Below w.heap.size w w' := by
  have H := hid h
  clear h
  obtain ⟨E, hE⟩ : ∃ E, wrap64 (a + r) = E := ⟨_, rfl⟩
  have h := H.out
  rw [hE] at h
  clear H
  have HB := hid (Below.refl w.heap.size w)
  go_enter Try.func10, Try.ntmps10
  have FL1 := hid trivial
  go_wp2_with (first
    | (have hfl := FL1.out
       refine wpList_box rfl 23 (.tmp 0) rfl #[.bool true, .int .i64 (v), .int .i64 (a)] rfl ?_
       intro v1 b h z
       have PB := hid (show BoxAt v1 w.heap.size 23 #[.bool true, .int .i64 (v), .int .i64 (a)] from b)
       have HB := hid (HB.out.trans (h.mono HB.out.size))
       have hsv1 : w.heap.size + 1 ≤ v1.heap.size := by first | exact h.size | omega
       clear b h z hfl FL1
       refine Hid.out ?_)
    | fail)
  refine hid ?_
  have kPB0 : v1.cell? ⟨w.heap.size, 0, none⟩ = some (.bool true) := (BoxAt.cell PB.out 0).trans rfl
  have kPB2 : v1.cell? ⟨w.heap.size, 2, none⟩ = some (.int .i64 (a)) := (BoxAt.cell PB.out 2).trans rfl
  go_wp2_with fail
  clear kPB0 kPB2
  have PB := hid (BoxAt.drew PB.out)
  have HB := hid (HB.out.drew)
  have hsv2 : v1.heap.size ≤ v1.drew.heap.size := Nat.le_refl _
  refine wp_region_held_drew (S := (fun w' : World => BoxAt w' (w.heap.size) 23 #[.bool true, .int .i64 (v), .int .i64 (a)])) (by kernel_rfl) (PB.out) (fun hHeld => ?_)
  generalize v1.drew = v2 at *
  refine wpAnyH_take (i := 0) (oi := { dst := some 17, op := Op.fieldAddr 23 (Operand.tmp 3) 1, type := 0, pos := "ref.go:20", after := _, guard := none }) (v := ?_) rfl (by kernel_rfl) (by kernel_rfl) (by kernel_rfl) (fun _ _ _ h => h) (Or.inl ⟨by rfl, ?_⟩) (by assumption) ?_
  rotate_left
  · (intro w hSw; (try dsimp only at hSw); go_simp; try with_reducible rfl)
  simp only [Act.put, List.setIfInBounds_toArray, List.set_cons_zero, List.set_cons_succ]
  refine wpAnyH_take (i := 1) (oi := { dst := some 18, op := Op.load 3 (Operand.tmp 17), type := 3, pos := "ref.go:20", after := _, guard := none }) (v := ?_) rfl (by kernel_rfl) (by kernel_rfl) (by kernel_rfl) (fun _ _ _ h => h) (Or.inl ⟨by rfl, ?_⟩) (by assumption) ?_
  rotate_left
  · (intro W hSw; (try dsimp only at hSw); have hs0S := hSw; have c0_0 : W.cell? ⟨w.heap.size, 0, none⟩ = some (.bool true) := (BoxAt.cell hs0S 0).trans rfl; have c0_1 : W.cell? ⟨w.heap.size, 1, none⟩ = some (.int .i64 (v)) := (BoxAt.cell hs0S 1).trans rfl; have c0_2 : W.cell? ⟨w.heap.size, 2, none⟩ = some (.int .i64 (a)) := (BoxAt.cell hs0S 2).trans rfl; clear hs0S; go_simp; try with_reducible rfl)
  simp only [Act.put, List.setIfInBounds_toArray, List.set_cons_zero, List.set_cons_succ]
  refine wpAnyH_take (i := 2) (oi := { dst := some 6, op := Op.assign (Operand.const (Value.int IntKind.i64 1)), type := 3, pos := "ref.go:20", after := _, guard := none }) (v := ?_) rfl (by kernel_rfl) (by kernel_rfl) (by kernel_rfl) (fun _ _ _ h => h) (Or.inl ⟨by rfl, ?_⟩) (by assumption) ?_
  rotate_left
  · (intro w hSw; (try dsimp only at hSw); go_simp; try with_reducible rfl)
  simp only [Act.put, List.setIfInBounds_toArray, List.set_cons_zero, List.set_cons_succ]
  refine wpAnyH_take (i := 3) (oi := { dst := some 7, op := Op.assign (Operand.tmp 18), type := 3, pos := "ref.go:20", after := _, guard := none }) (v := ?_) rfl (by kernel_rfl) (by kernel_rfl) (by kernel_rfl) (fun _ _ _ h => h) (Or.inl ⟨by rfl, ?_⟩) (by assumption) ?_
  rotate_left
  · (intro w hSw; (try dsimp only at hSw); go_simp; try with_reducible rfl)
  simp only [Act.put, List.setIfInBounds_toArray, List.set_cons_zero, List.set_cons_succ]
  refine wpAnyH_done (by kernel_rfl) ?_ _
  clear hHeld
  have kPB0 : v2.cell? ⟨w.heap.size, 0, none⟩ = some (.bool true) := (BoxAt.cell PB.out 0).trans rfl
  have kPB2 : v2.cell? ⟨w.heap.size, 2, none⟩ = some (.int .i64 (a)) := (BoxAt.cell PB.out 2).trans rfl
  go_wp2
  go_ret2
  exact ⟨rfl, HB.out⟩

set_option maxRecDepth 100000 in
set_option maxHeartbeats 1600000 in
theorem rget_good (v a r now : Int) (h : ¬ wrap64 (a + r) < now) (w : World) :
    Calls Try.prog 10 #[.agg #[.bool true, .int .i64 (v), .int .i64 (a)], .int .i64 (r), .int .i64 (now)] w fun e w' => e = .returned (.tuple #[.int .i64 (0), .int .i64 (v)]) ∧ Below w.heap.size w w' := by
  have H := hid h
  clear h
  obtain ⟨E, hE⟩ : ∃ E, wrap64 (a + r) = E := ⟨_, rfl⟩
  have h := H.out
  rw [hE] at h
  clear H
  have HB := hid (Below.refl w.heap.size w)
  go_enter Try.func10, Try.ntmps10
  have FL1 := hid trivial
  go_wp2_with (first
    | (have hfl := FL1.out
       refine wpList_box rfl 23 (.tmp 0) rfl #[.bool true, .int .i64 (v), .int .i64 (a)] rfl ?_
       intro v1 b h z
       have PB := hid (show BoxAt v1 w.heap.size 23 #[.bool true, .int .i64 (v), .int .i64 (a)] from b)
       have HB := hid (HB.out.trans (h.mono HB.out.size))
       have hsv1 : w.heap.size + 1 ≤ v1.heap.size := by first | exact h.size | omega
       clear b h z hfl FL1
       refine Hid.out ?_)
    | fail)
  refine hid ?_
  have kPB0 : v1.cell? ⟨w.heap.size, 0, none⟩ = some (.bool true) := (BoxAt.cell PB.out 0).trans rfl
  have kPB2 : v1.cell? ⟨w.heap.size, 2, none⟩ = some (.int .i64 (a)) := (BoxAt.cell PB.out 2).trans rfl
  go_wp2_with fail
  clear kPB0 kPB2
  have PB := hid (BoxAt.drew PB.out)
  have HB := hid (HB.out.drew)
  have hsv2 : v1.heap.size ≤ v1.drew.heap.size := Nat.le_refl _
  refine wp_region_held_drew (S := (fun w' : World => BoxAt w' (w.heap.size) 23 #[.bool true, .int .i64 (v), .int .i64 (a)])) (by kernel_rfl) (PB.out) (fun hHeld => ?_)
  generalize v1.drew = v2 at *
  refine wpAnyH_take (i := 0) (oi := { dst := some 19, op := Op.fieldAddr 23 (Operand.tmp 3) 1, type := 0, pos := "ref.go:22", after := _, guard := none }) (v := ?_) rfl (by kernel_rfl) (by kernel_rfl) (by kernel_rfl) (fun _ _ _ h => h) (Or.inl ⟨by rfl, ?_⟩) (by assumption) ?_
  rotate_left
  · (intro w hSw; (try dsimp only at hSw); go_simp; try with_reducible rfl)
  simp only [Act.put, List.setIfInBounds_toArray, List.set_cons_zero, List.set_cons_succ]
  refine wpAnyH_take (i := 1) (oi := { dst := some 20, op := Op.load 3 (Operand.tmp 19), type := 3, pos := "ref.go:22", after := _, guard := none }) (v := ?_) rfl (by kernel_rfl) (by kernel_rfl) (by kernel_rfl) (fun _ _ _ h => h) (Or.inl ⟨by rfl, ?_⟩) (by assumption) ?_
  rotate_left
  · (intro W hSw; (try dsimp only at hSw); have hs0S := hSw; have c0_0 : W.cell? ⟨w.heap.size, 0, none⟩ = some (.bool true) := (BoxAt.cell hs0S 0).trans rfl; have c0_1 : W.cell? ⟨w.heap.size, 1, none⟩ = some (.int .i64 (v)) := (BoxAt.cell hs0S 1).trans rfl; have c0_2 : W.cell? ⟨w.heap.size, 2, none⟩ = some (.int .i64 (a)) := (BoxAt.cell hs0S 2).trans rfl; clear hs0S; go_simp; try with_reducible rfl)
  simp only [Act.put, List.setIfInBounds_toArray, List.set_cons_zero, List.set_cons_succ]
  refine wpAnyH_take (i := 2) (oi := { dst := some 6, op := Op.assign (Operand.const (Value.int IntKind.i64 0)), type := 3, pos := "ref.go:22", after := _, guard := none }) (v := ?_) rfl (by kernel_rfl) (by kernel_rfl) (by kernel_rfl) (fun _ _ _ h => h) (Or.inl ⟨by rfl, ?_⟩) (by assumption) ?_
  rotate_left
  · (intro w hSw; (try dsimp only at hSw); go_simp; try with_reducible rfl)
  simp only [Act.put, List.setIfInBounds_toArray, List.set_cons_zero, List.set_cons_succ]
  refine wpAnyH_take (i := 3) (oi := { dst := some 7, op := Op.assign (Operand.tmp 20), type := 3, pos := "ref.go:22", after := _, guard := none }) (v := ?_) rfl (by kernel_rfl) (by kernel_rfl) (by kernel_rfl) (fun _ _ _ h => h) (Or.inl ⟨by rfl, ?_⟩) (by assumption) ?_
  rotate_left
  · (intro w hSw; (try dsimp only at hSw); go_simp; try with_reducible rfl)
  simp only [Act.put, List.setIfInBounds_toArray, List.set_cons_zero, List.set_cons_succ]
  refine wpAnyH_done (by kernel_rfl) ?_ _
  clear hHeld
  have kPB0 : v2.cell? ⟨w.heap.size, 0, none⟩ = some (.bool true) := (BoxAt.cell PB.out 0).trans rfl
  have kPB2 : v2.cell? ⟨w.heap.size, 2, none⟩ = some (.int .i64 (a)) := (BoxAt.cell PB.out 2).trans rfl
  go_wp2
  go_ret2
  exact ⟨rfl, HB.out⟩

theorem rget_any (k : Bool) (v a r now : Int) (w : World) :
    Calls Try.prog 10 #[.agg #[.bool k, .int .i64 (v), .int .i64 (a)], .int .i64 (r), .int .i64 (now)] w fun e w' => e = .returned (.tuple #[.int .i64 (getC k a r now), .int .i64 (getV k v)]) ∧ Below w.heap.size w w' := by
  unfold getC getV
  cases k
  · exact rget_none v a r now w
  · by_cases h : wrap64 (a + r) < now
    · rw [if_pos rfl, if_pos h]
      exact rget_late v a r now h w
    · rw [if_pos rfl, if_neg h]
      exact rget_good v a r now h w


set_option maxRecDepth 100000 in
set_option maxHeartbeats 1600000 in
theorem carry_yes (v a : Int) (yk : Bool) (yv ya : Int) (w : World) :
    Calls Try.prog 13 #[.agg #[.bool true, .int .i64 (v), .int .i64 (a)], .agg #[.bool yk, .int .i64 (yv), .int .i64 (ya)]] w fun e w' => e = .returned (.agg #[.bool true, .int .i64 (v), .int .i64 (a)]) ∧ Below w.heap.size w w' := by
  have HB := hid (Below.refl w.heap.size w)
  go_enter Try.func13, Try.ntmps13
  have FL1 := hid trivial
  have FL2 := hid trivial
  have FL3 := hid trivial
  go_wp2_with (first
    | (have hfl := FL1.out
       refine wpList_box rfl 23 (.tmp 0) rfl #[.bool true, .int .i64 (v), .int .i64 (a)] rfl ?_
       intro v1 b h z
       have PB := hid (show BoxAt v1 w.heap.size 23 #[.bool true, .int .i64 (v), .int .i64 (a)] from b)
       have HB := hid (HB.out.trans (h.mono HB.out.size))
       have hsv1 : w.heap.size + 1 ≤ v1.heap.size := by first | exact h.size | omega
       clear b h z hfl FL1)
    | (have hfl := FL2.out
       refine wpList_box rfl 23 (.tmp 1) rfl #[.bool yk, .int .i64 (yv), .int .i64 (ya)] rfl ?_
       intro v2 b h z
       have TB := hid (show BoxAt v2 v1.heap.size 23 #[.bool yk, .int .i64 (yv), .int .i64 (ya)] from b)
       have PB := hid (PB.out.belowAll h)
       have HB := hid (HB.out.trans (h.mono HB.out.size))
       have hsv2 : v1.heap.size + 1 ≤ v2.heap.size := by first | exact h.size | omega
       have kPB0 : v2.cell? ⟨w.heap.size, 0, none⟩ = some (.bool true) := (BoxAt.cell PB.out 0).trans rfl
       clear b h z hfl FL2)
    | (have hfl := FL3.out
       refine wpList_new rfl 23 rfl _ Try.zeroSp ?_
       intro v3 b h z
       have RB := hid (show BoxAt v3 v2.heap.size 23 #[.bool false, .int .i64 0, .int .i64 0] from b)
       have PB := hid (PB.out.belowAll h)
       have TB := hid (TB.out.belowAll h)
       have HB := hid (HB.out.trans (h.mono HB.out.size))
       have hsv3 : v2.heap.size + 1 ≤ v3.heap.size := by first | exact h.size | omega
       clear kPB0
       have kPB0 : v3.cell? ⟨w.heap.size, 0, none⟩ = some (.bool true) := (BoxAt.cell PB.out 0).trans rfl
       clear b h z hfl FL3)
    | (refine wpList_load_box rfl 23 _ rfl (w.heap.size) rfl _ _ PB.out _ Try.underlying23 Try.infoSp ?_)
    | fail)
  refine (has_yes v a _).mono ?_
  rintro e v4 ⟨rfl, hb⟩
  have PB := hid (PB.out.belowAll hb)
  have TB := hid (TB.out.belowAll hb)
  have RB := hid (RB.out.belowAll hb)
  have HB := hid (HB.out.trans (hb.mono HB.out.size))
  have hsv4 : v3.heap.size ≤ v4.heap.size := by first | exact hb.size | omega
  clear kPB0
  have kPB0 : v4.cell? ⟨w.heap.size, 0, none⟩ = some (.bool true) := (BoxAt.cell PB.out 0).trans rfl
  clear hb
  have FL4 := hid trivial
  go_wp2_with (first
    | (refine wpList_load_box rfl 23 _ rfl (w.heap.size) rfl _ _ PB.out _ Try.underlying23 Try.infoSp ?_)
    | (have hfl := FL4.out
       refine wpList_store_whole rfl 23 _ _ rfl rfl (v2.heap.size) rfl [.bool true, .int .i64 (v), .int .i64 (a)] rfl _ _ RB.out rfl Try.infoSp (by simp [Value.oneCell']) ?_
       intro v5 b g z
       have hsv5 : v4.heap.size ≤ v5.heap.size := by omega
       have RB := hid (show BoxAt v5 (v2.heap.size) 23 #[.bool true, .int .i64 (v), .int .i64 (a)] from b)
       have PB := hid (PB.out.grown g (fun e => by have := Option.some.inj e; omega))
       have TB := hid (TB.out.grown g (fun e => by have := Option.some.inj e; omega))
       have HB := hid (HB.out.trans (grown_below g (by omega) (by omega)))
       clear kPB0
       have kPB0 : v5.cell? ⟨w.heap.size, 0, none⟩ = some (.bool true) := (BoxAt.cell PB.out 0).trans rfl
       clear b g z hfl FL4)
    | fail)
  refine bodyPost_ret (results_cell_row rfl _ _ (v2.heap.size) 23 _ (0, 0) _ rfl RB.out Try.underlying23 rfl Try.infoSp) rfl ?_
  exact ⟨rfl, HB.out⟩

set_option maxRecDepth 100000 in
set_option maxHeartbeats 1600000 in
theorem carry_no (v a : Int) (yk : Bool) (yv ya : Int) (w : World) :
    Calls Try.prog 13 #[.agg #[.bool false, .int .i64 (v), .int .i64 (a)], .agg #[.bool yk, .int .i64 (yv), .int .i64 (ya)]] w fun e w' => e = .returned (.agg #[.bool yk, .int .i64 (yv), .int .i64 (ya)]) ∧ Below w.heap.size w w' := by
  have HB := hid (Below.refl w.heap.size w)
  go_enter Try.func13, Try.ntmps13
  have FL1 := hid trivial
  have FL2 := hid trivial
  have FL3 := hid trivial
  go_wp2_with (first
    | (have hfl := FL1.out
       refine wpList_box rfl 23 (.tmp 0) rfl #[.bool false, .int .i64 (v), .int .i64 (a)] rfl ?_
       intro v1 b h z
       have PB := hid (show BoxAt v1 w.heap.size 23 #[.bool false, .int .i64 (v), .int .i64 (a)] from b)
       have HB := hid (HB.out.trans (h.mono HB.out.size))
       have hsv1 : w.heap.size + 1 ≤ v1.heap.size := by first | exact h.size | omega
       clear b h z hfl FL1)
    | (have hfl := FL2.out
       refine wpList_box rfl 23 (.tmp 1) rfl #[.bool yk, .int .i64 (yv), .int .i64 (ya)] rfl ?_
       intro v2 b h z
       have TB := hid (show BoxAt v2 v1.heap.size 23 #[.bool yk, .int .i64 (yv), .int .i64 (ya)] from b)
       have PB := hid (PB.out.belowAll h)
       have HB := hid (HB.out.trans (h.mono HB.out.size))
       have hsv2 : v1.heap.size + 1 ≤ v2.heap.size := by first | exact h.size | omega
       have kPB0 : v2.cell? ⟨w.heap.size, 0, none⟩ = some (.bool false) := (BoxAt.cell PB.out 0).trans rfl
       clear b h z hfl FL2)
    | (have hfl := FL3.out
       refine wpList_new rfl 23 rfl _ Try.zeroSp ?_
       intro v3 b h z
       have RB := hid (show BoxAt v3 v2.heap.size 23 #[.bool false, .int .i64 0, .int .i64 0] from b)
       have PB := hid (PB.out.belowAll h)
       have TB := hid (TB.out.belowAll h)
       have HB := hid (HB.out.trans (h.mono HB.out.size))
       have hsv3 : v2.heap.size + 1 ≤ v3.heap.size := by first | exact h.size | omega
       clear kPB0
       have kPB0 : v3.cell? ⟨w.heap.size, 0, none⟩ = some (.bool false) := (BoxAt.cell PB.out 0).trans rfl
       clear b h z hfl FL3)
    | (refine wpList_load_box rfl 23 _ rfl (w.heap.size) rfl _ _ PB.out _ Try.underlying23 Try.infoSp ?_)
    | fail)
  refine (has_no v a _).mono ?_
  rintro e v4 ⟨rfl, hb⟩
  have PB := hid (PB.out.belowAll hb)
  have TB := hid (TB.out.belowAll hb)
  have RB := hid (RB.out.belowAll hb)
  have HB := hid (HB.out.trans (hb.mono HB.out.size))
  have hsv4 : v3.heap.size ≤ v4.heap.size := by first | exact hb.size | omega
  clear kPB0
  have kPB0 : v4.cell? ⟨w.heap.size, 0, none⟩ = some (.bool false) := (BoxAt.cell PB.out 0).trans rfl
  clear hb
  have FL4 := hid trivial
  go_wp2_with (first
    | (refine wpList_load_box rfl 23 _ rfl (v1.heap.size) rfl _ _ TB.out _ Try.underlying23 Try.infoSp ?_)
    | (have hfl := FL4.out
       refine wpList_store_whole rfl 23 _ _ rfl rfl (v2.heap.size) rfl [.bool yk, .int .i64 (yv), .int .i64 (ya)] rfl _ _ RB.out rfl Try.infoSp (by simp [Value.oneCell']) ?_
       intro v5 b g z
       have hsv5 : v4.heap.size ≤ v5.heap.size := by omega
       have RB := hid (show BoxAt v5 (v2.heap.size) 23 #[.bool yk, .int .i64 (yv), .int .i64 (ya)] from b)
       have PB := hid (PB.out.grown g (fun e => by have := Option.some.inj e; omega))
       have TB := hid (TB.out.grown g (fun e => by have := Option.some.inj e; omega))
       have HB := hid (HB.out.trans (grown_below g (by omega) (by omega)))
       clear kPB0
       have kPB0 : v5.cell? ⟨w.heap.size, 0, none⟩ = some (.bool false) := (BoxAt.cell PB.out 0).trans rfl
       clear b g z hfl FL4)
    | fail)
  refine bodyPost_ret (results_cell_row rfl _ _ (v2.heap.size) 23 _ (0, 0) _ rfl RB.out Try.underlying23 rfl Try.infoSp) rfl ?_
  exact ⟨rfl, HB.out⟩

set_option maxRecDepth 100000 in
set_option maxHeartbeats 1600000 in
theorem rcarry_yes (v a : Int) (yk : Bool) (yv ya : Int) (w : World) :
    Calls Try.prog 14 #[.agg #[.bool true, .int .i64 (v), .int .i64 (a)], .agg #[.bool yk, .int .i64 (yv), .int .i64 (ya)]] w fun e w' => e = .returned (.agg #[.bool true, .int .i64 (v), .int .i64 (a)]) ∧ Below w.heap.size w w' := by
  have HB := hid (Below.refl w.heap.size w)
  go_enter Try.func14, Try.ntmps14
  have FL1 := hid trivial
  have FL2 := hid trivial
  have FL3 := hid trivial
  have FL4 := hid trivial
  go_wp2_with (first
    | (have hfl := FL1.out
       refine wpList_box rfl 23 (.tmp 0) rfl #[.bool true, .int .i64 (v), .int .i64 (a)] rfl ?_
       intro v1 b h z
       have PB := hid (show BoxAt v1 w.heap.size 23 #[.bool true, .int .i64 (v), .int .i64 (a)] from b)
       have HB := hid (HB.out.trans (h.mono HB.out.size))
       have hsv1 : w.heap.size + 1 ≤ v1.heap.size := by first | exact h.size | omega
       clear b h z hfl FL1)
    | (have hfl := FL2.out
       refine wpList_box rfl 23 (.tmp 1) rfl #[.bool yk, .int .i64 (yv), .int .i64 (ya)] rfl ?_
       intro v2 b h z
       have TB := hid (show BoxAt v2 v1.heap.size 23 #[.bool yk, .int .i64 (yv), .int .i64 (ya)] from b)
       have PB := hid (PB.out.belowAll h)
       have HB := hid (HB.out.trans (h.mono HB.out.size))
       have hsv2 : v1.heap.size + 1 ≤ v2.heap.size := by first | exact h.size | omega
       have kPB0 : v2.cell? ⟨w.heap.size, 0, none⟩ = some (.bool true) := (BoxAt.cell PB.out 0).trans rfl
       clear b h z hfl FL2)
    | (have hfl := FL3.out
       refine wpList_new rfl 23 rfl _ Try.zeroSp ?_
       intro v3 b h z
       have RB := hid (show BoxAt v3 v2.heap.size 23 #[.bool false, .int .i64 0, .int .i64 0] from b)
       have PB := hid (PB.out.belowAll h)
       have TB := hid (TB.out.belowAll h)
       have HB := hid (HB.out.trans (h.mono HB.out.size))
       have hsv3 : v2.heap.size + 1 ≤ v3.heap.size := by first | exact h.size | omega
       clear kPB0
       have kPB0 : v3.cell? ⟨w.heap.size, 0, none⟩ = some (.bool true) := (BoxAt.cell PB.out 0).trans rfl
       clear b h z hfl FL3)
    | (refine wpList_load_box rfl 23 _ rfl (w.heap.size) rfl _ _ PB.out _ Try.underlying23 Try.infoSp ?_)
    | (have hfl := FL4.out
       refine wpList_store_whole rfl 23 _ _ rfl rfl (v2.heap.size) rfl [.bool true, .int .i64 (v), .int .i64 (a)] rfl _ _ RB.out rfl Try.infoSp (by simp [Value.oneCell']) ?_
       intro v4 b g z
       have hsv4 : v3.heap.size ≤ v4.heap.size := by omega
       have RB := hid (show BoxAt v4 (v2.heap.size) 23 #[.bool true, .int .i64 (v), .int .i64 (a)] from b)
       have PB := hid (PB.out.grown g (fun e => by have := Option.some.inj e; omega))
       have TB := hid (TB.out.grown g (fun e => by have := Option.some.inj e; omega))
       have HB := hid (HB.out.trans (grown_below g (by omega) (by omega)))
       clear kPB0
       have kPB0 : v4.cell? ⟨w.heap.size, 0, none⟩ = some (.bool true) := (BoxAt.cell PB.out 0).trans rfl
       clear b g z hfl FL4)
    | fail)
  refine bodyPost_ret (results_cell_row rfl _ _ (v2.heap.size) 23 _ (0, 0) _ rfl RB.out Try.underlying23 rfl Try.infoSp) rfl ?_
  exact ⟨rfl, HB.out⟩

set_option maxRecDepth 100000 in
set_option maxHeartbeats 1600000 in
theorem rcarry_no (v a : Int) (yk : Bool) (yv ya : Int) (w : World) :
    Calls Try.prog 14 #[.agg #[.bool false, .int .i64 (v), .int .i64 (a)], .agg #[.bool yk, .int .i64 (yv), .int .i64 (ya)]] w fun e w' => e = .returned (.agg #[.bool yk, .int .i64 (yv), .int .i64 (ya)]) ∧ Below w.heap.size w w' := by
  have HB := hid (Below.refl w.heap.size w)
  go_enter Try.func14, Try.ntmps14
  have FL1 := hid trivial
  have FL2 := hid trivial
  have FL3 := hid trivial
  have FL4 := hid trivial
  go_wp2_with (first
    | (have hfl := FL1.out
       refine wpList_box rfl 23 (.tmp 0) rfl #[.bool false, .int .i64 (v), .int .i64 (a)] rfl ?_
       intro v1 b h z
       have PB := hid (show BoxAt v1 w.heap.size 23 #[.bool false, .int .i64 (v), .int .i64 (a)] from b)
       have HB := hid (HB.out.trans (h.mono HB.out.size))
       have hsv1 : w.heap.size + 1 ≤ v1.heap.size := by first | exact h.size | omega
       clear b h z hfl FL1)
    | (have hfl := FL2.out
       refine wpList_box rfl 23 (.tmp 1) rfl #[.bool yk, .int .i64 (yv), .int .i64 (ya)] rfl ?_
       intro v2 b h z
       have TB := hid (show BoxAt v2 v1.heap.size 23 #[.bool yk, .int .i64 (yv), .int .i64 (ya)] from b)
       have PB := hid (PB.out.belowAll h)
       have HB := hid (HB.out.trans (h.mono HB.out.size))
       have hsv2 : v1.heap.size + 1 ≤ v2.heap.size := by first | exact h.size | omega
       have kPB0 : v2.cell? ⟨w.heap.size, 0, none⟩ = some (.bool false) := (BoxAt.cell PB.out 0).trans rfl
       clear b h z hfl FL2)
    | (have hfl := FL3.out
       refine wpList_new rfl 23 rfl _ Try.zeroSp ?_
       intro v3 b h z
       have RB := hid (show BoxAt v3 v2.heap.size 23 #[.bool false, .int .i64 0, .int .i64 0] from b)
       have PB := hid (PB.out.belowAll h)
       have TB := hid (TB.out.belowAll h)
       have HB := hid (HB.out.trans (h.mono HB.out.size))
       have hsv3 : v2.heap.size + 1 ≤ v3.heap.size := by first | exact h.size | omega
       clear kPB0
       have kPB0 : v3.cell? ⟨w.heap.size, 0, none⟩ = some (.bool false) := (BoxAt.cell PB.out 0).trans rfl
       clear b h z hfl FL3)
    | (refine wpList_load_box rfl 23 _ rfl (v1.heap.size) rfl _ _ TB.out _ Try.underlying23 Try.infoSp ?_)
    | (have hfl := FL4.out
       refine wpList_store_whole rfl 23 _ _ rfl rfl (v2.heap.size) rfl [.bool yk, .int .i64 (yv), .int .i64 (ya)] rfl _ _ RB.out rfl Try.infoSp (by simp [Value.oneCell']) ?_
       intro v4 b g z
       have hsv4 : v3.heap.size ≤ v4.heap.size := by omega
       have RB := hid (show BoxAt v4 (v2.heap.size) 23 #[.bool yk, .int .i64 (yv), .int .i64 (ya)] from b)
       have PB := hid (PB.out.grown g (fun e => by have := Option.some.inj e; omega))
       have TB := hid (TB.out.grown g (fun e => by have := Option.some.inj e; omega))
       have HB := hid (HB.out.trans (grown_below g (by omega) (by omega)))
       clear kPB0
       have kPB0 : v4.cell? ⟨w.heap.size, 0, none⟩ = some (.bool false) := (BoxAt.cell PB.out 0).trans rfl
       clear b g z hfl FL4)
    | fail)
  refine bodyPost_ret (results_cell_row rfl _ _ (v2.heap.size) 23 _ (0, 0) _ rfl RB.out Try.underlying23 rfl Try.infoSp) rfl ?_
  exact ⟨rfl, HB.out⟩

set_option maxRecDepth 100000 in
set_option maxHeartbeats 1600000 in
theorem rput_any (k : Bool) (v a x now : Int) (w : World) :
    Calls Try.prog 12 #[.agg #[.bool k, .int .i64 (v), .int .i64 (a)], .int .i64 (x), .int .i64 (now)] w fun e w' => e = .returned (.agg #[.bool true, .int .i64 (x), .int .i64 (now)]) ∧ Below w.heap.size w w' := by
  have HB := hid (Below.refl w.heap.size w)
  go_enter Try.func12, Try.ntmps12
  have FL1 := hid trivial
  have FL2 := hid trivial
  have FL3 := hid trivial
  have FL4 := hid trivial
  have FL5 := hid trivial
  have FL6 := hid trivial
  go_wp2_with (first
    | (have hfl := FL1.out
       refine wpList_box rfl 23 (.tmp 0) rfl #[.bool k, .int .i64 (v), .int .i64 (a)] rfl ?_
       intro v1 b h z
       have PB := hid (show BoxAt v1 w.heap.size 23 #[.bool k, .int .i64 (v), .int .i64 (a)] from b)
       have HB := hid (HB.out.trans (h.mono HB.out.size))
       have hsv1 : w.heap.size + 1 ≤ v1.heap.size := by first | exact h.size | omega
       clear b h z hfl FL1)
    | (have hfl := FL2.out
       refine wpList_new rfl 23 rfl _ Try.zeroSp ?_
       intro v2 b h z
       have RB := hid (show BoxAt v2 v1.heap.size 23 #[.bool false, .int .i64 0, .int .i64 0] from b)
       have PB := hid (PB.out.belowAll h)
       have HB := hid (HB.out.trans (h.mono HB.out.size))
       have hsv2 : v1.heap.size + 1 ≤ v2.heap.size := by first | exact h.size | omega
       clear b h z hfl FL2)
    | (have hfl := FL3.out
       refine wpList_store_box rfl 4 _ _ rfl rfl (w.heap.size) 0 (.bool true) rfl rfl rfl rfl (by kernel_rfl) _ _ PB.out (by simp) ?_
       intro v3 b g z
       have hsv3 : v2.heap.size ≤ v3.heap.size := by omega
       have PB := hid (show BoxAt v3 (w.heap.size) 23 #[.bool true, .int .i64 (v), .int .i64 (a)] from by simpa using b)
       have RB := hid (RB.out.grown g (fun e => by have := Option.some.inj e; omega))
       have HB := hid (HB.out.trans (grown_below g (by omega) (by omega)))
       clear b g z hfl FL3)
    | (have hfl := FL4.out
       refine wpList_store_box rfl 3 _ _ rfl rfl (w.heap.size) 1 (.int .i64 (x)) rfl rfl rfl rfl (by kernel_rfl) _ _ PB.out (by simp) ?_
       intro v4 b g z
       have hsv4 : v3.heap.size ≤ v4.heap.size := by omega
       have PB := hid (show BoxAt v4 (w.heap.size) 23 #[.bool true, .int .i64 (x), .int .i64 (a)] from by simpa using b)
       have RB := hid (RB.out.grown g (fun e => by have := Option.some.inj e; omega))
       have HB := hid (HB.out.trans (grown_below g (by omega) (by omega)))
       clear b g z hfl FL4)
    | (have hfl := FL5.out
       refine wpList_store_box rfl 3 _ _ rfl rfl (w.heap.size) 2 (.int .i64 (now)) rfl rfl rfl rfl (by kernel_rfl) _ _ PB.out (by simp) ?_
       intro v5 b g z
       have hsv5 : v4.heap.size ≤ v5.heap.size := by omega
       have PB := hid (show BoxAt v5 (w.heap.size) 23 #[.bool true, .int .i64 (x), .int .i64 (now)] from by simpa using b)
       have RB := hid (RB.out.grown g (fun e => by have := Option.some.inj e; omega))
       have HB := hid (HB.out.trans (grown_below g (by omega) (by omega)))
       clear b g z hfl FL5)
    | (refine wpList_load_box rfl 23 _ rfl (w.heap.size) rfl _ _ PB.out _ Try.underlying23 Try.infoSp ?_)
    | (have hfl := FL6.out
       refine wpList_store_whole rfl 23 _ _ rfl rfl (v1.heap.size) rfl [.bool true, .int .i64 (x), .int .i64 (now)] rfl _ _ RB.out rfl Try.infoSp (by simp [Value.oneCell']) ?_
       intro v6 b g z
       have hsv6 : v5.heap.size ≤ v6.heap.size := by omega
       have RB := hid (show BoxAt v6 (v1.heap.size) 23 #[.bool true, .int .i64 (x), .int .i64 (now)] from b)
       have PB := hid (PB.out.grown g (fun e => by have := Option.some.inj e; omega))
       have HB := hid (HB.out.trans (grown_below g (by omega) (by omega)))
       clear b g z hfl FL6)
    | fail)
  refine bodyPost_ret (results_cell_row rfl _ _ (v1.heap.size) 23 _ (0, 0) _ rfl RB.out Try.underlying23 rfl Try.infoSp) rfl ?_
  exact ⟨rfl, HB.out⟩

end Go.Proofs.Ytpajidiobifjoaa
