/-
  BoardWaits: the walk.
-/
import Derived.Test.YtpojoflhmbnfmaaBdAwake
import Derived.Test.YtpojoflhmbnfmaaBdOpen
import Derived.BigQuiet
namespace Go.Proofs.Ytpojoflhmbnfmaa
open Go.RowKit
set_option linter.unusedVariables false


theorem wrapi_id (x : Int) (h1 : -9223372036854775808 ≤ x) (h2 : x ≤ 9223372036854775807) : IntKind.i64.wrap x = x := by rw [IntKind.wrap_i64]; omega
theorem wrap64_id (x : Int) (h1 : -9223372036854775808 ≤ x) (h2 : x ≤ 9223372036854775807) : wrap64 x = x := by unfold wrap64; omega
theorem addP_last (l : List Wt) (y : Wt) : (addP l y false).getD l.length Wt.zero = y := by
  unfold addP putP
  simp [List.getD]


set_option maxRecDepth 100000 in
set_option maxHeartbeats 3200000 in
theorem walk_BoardWaits (w : World) (v : Value) (l : List Wt) (hv : SeesWt w v l) (hf : ∀ r ∈ l, r.fit) (y : Wt) (f1 : y.fit) :
    Calls Try.prog 7 #[v, y.val] w fun e w' => e = .returned (.bool true) ∧ Below w.heap.size w w' := by
  clear f1
  clear hf
  have HV := hid hv
  obtain ⟨al, cl, rfl, hl1, hl2, hlc⟩ := hv.form
  unfold maxLen at hl2
  have HC := hid hlc
  clear hv hlc
  clear HC
  obtain ⟨y0, y1, y2⟩ := y
  unfold Wt.val
  simp only
  have HB := hid (Below.refl w.heap.size w)
  go_enter Try.func7, Try.ntmps7
  have FL1 := hid trivial
  go_wp2_with (first
    | (have hfl := FL1.out
       refine wpList_box rfl 26 (.tmp 1) rfl #[.int .i64 y0, .int .i64 y1, .int .i64 y2] rfl ?_
       intro v1 b h z
       have WB := hid (show BoxAt v1 w.heap.size 26 #[.int .i64 y0, .int .i64 y1, .int .i64 y2] from b)
       have HB := hid (HB.out.trans (h.mono HB.out.size))
       have hsv1 : w.heap.size + 1 ≤ v1.heap.size := by first | exact h.size | omega
       clear b h z hfl FL1)
    | fail)
  refine (bdawake_any _).mono ?_
  rintro e v2 ⟨rfl, hb⟩
  have WB := hid (WB.out.belowAll hb)
  have HB := hid (HB.out.trans (hb.mono HB.out.size))
  have hsv2 : v1.heap.size ≤ v2.heap.size := by first | exact hb.size | omega
  clear hb
  by_cases h60 : 60 < l.length
  · have h60' : (60 : Int) < l.length := by omega
    go_wp2
    go_ret
    exact ⟨rfl, HB.out⟩
  have h60' : ¬ (60 : Int) < l.length := by omega
  have hl : l.length ≤ 800000 := by omega
  go_wp2_with (first
    | (refine wpList_load_box rfl 26 _ rfl (w.heap.size) rfl _ _ WB.out _ Try.underlying26 Try.infoWt ?_)
    | fail)
  refine (bread_any false 0 (s := ⟨al, l.length, cl⟩) ⟨y0, y1, y2⟩ true (HV.out.below HB.out) hl).mono ?_
  rintro e v3 ⟨u, rfl, hu, hb⟩
  have WB := hid (WB.out.belowAll hb)
  have HB := hid (HB.out.trans (hb.mono HB.out.size))
  have hsv3 : v2.heap.size ≤ v3.heap.size := by first | exact hb.size | omega
  rw [show readC false true = (6 : Int) from rfl, show readV false 0 = (0 : Int) from rfl]
  rw [show readL false true l ⟨y0, y1, y2⟩ = addP l ⟨y0, y1, y2⟩ false from rfl] at hu
  have HU := hid hu
  have HUN := hid (hu.n.trans (addP_len l ⟨y0, y1, y2⟩ false))
  have HAL := hid (addP_len l ⟨y0, y1, y2⟩ false)
  have HLA := hid (addP_last l ⟨y0, y1, y2⟩)
  clear hu
  clear hb
  have FL2 := hid trivial
  have FL3 := hid trivial
  go_wp2_with (first
    | (have hfl := FL2.out
       refine wpList_new rfl 24 rfl _ Try.zeroBd ?_
       intro v4 b h z
       have BB := hid (show BoxAt v4 v3.heap.size 24 #[.bool false, .int .i64 0, .slice none 0 0] from b)
       have WB := hid (WB.out.belowAll h)
       have HU := hid (HU.out.below h)
       have HB := hid (HB.out.trans (h.mono HB.out.size))
       have hsv4 : v3.heap.size + 1 ≤ v4.heap.size := by first | exact h.size | omega
       clear b h z hfl FL2)
    | (have hfl := FL3.out
       refine wpList_store_whole rfl 24 _ _ rfl rfl (v3.heap.size) rfl [.bool false, .int .i64 0, .slice u.a u.n u.c] rfl _ _ BB.out rfl Try.infoBd (by simp [Value.oneCell']) ?_
       intro v5 b g z
       have hsv5 : v4.heap.size ≤ v5.heap.size := by omega
       have HU := hid (HU.out.put g BB.out (by decide))
       have BB := hid (show BoxAt v5 (v3.heap.size) 24 #[.bool false, .int .i64 0, .slice u.a u.n u.c] from b)
       have WB := hid (WB.out.grown g (fun e => by have := Option.some.inj e; omega))
       have HB := hid (HB.out.trans (grown_below g (by omega) (by omega)))
       clear b g z hfl FL3)
    | (refine wpList_load_box rfl 24 _ rfl (v3.heap.size) rfl _ _ BB.out _ Try.underlying24 Try.infoBd ?_)
    | fail)
  refine (bclear_any false 0 (s := u) HU.out.sees (by rw [HAL.out]; omega)).mono ?_
  rintro e v6 ⟨r, rfl, hu, hb⟩
  have WB := hid (WB.out.belowAll hb)
  have BB := hid (BB.out.belowAll hb)
  have HU := hid (HU.out.below hb)
  have HB := hid (HB.out.trans (hb.mono HB.out.size))
  have hsv6 : v5.heap.size ≤ v6.heap.size := by first | exact hb.size | omega
  have HRN := hid (hu.n.trans HAL.out)
  clear hu
  clear hb
  have FL4 := hid trivial
  have FL5 := hid trivial
  go_wp2_with (first
    | (have hfl := FL4.out
       refine wpList_new rfl 24 rfl _ Try.zeroBd ?_
       intro v7 b h z
       have CB := hid (show BoxAt v7 v6.heap.size 24 #[.bool false, .int .i64 0, .slice none 0 0] from b)
       have WB := hid (WB.out.belowAll h)
       have BB := hid (BB.out.belowAll h)
       have HU := hid (HU.out.below h)
       have HB := hid (HB.out.trans (h.mono HB.out.size))
       have hsv7 : v6.heap.size + 1 ≤ v7.heap.size := by first | exact h.size | omega
       clear b h z hfl FL4)
    | (have hfl := FL5.out
       refine wpList_store_whole rfl 24 _ _ rfl rfl (v6.heap.size) rfl [.bool false, .int .i64 0, .slice r.a r.n r.c] rfl _ _ CB.out rfl Try.infoBd (by simp [Value.oneCell']) ?_
       intro v8 b g z
       have hsv8 : v7.heap.size ≤ v8.heap.size := by omega
       have HU := hid (HU.out.put g CB.out (by decide))
       have CB := hid (show BoxAt v8 (v6.heap.size) 24 #[.bool false, .int .i64 0, .slice r.a r.n r.c] from b)
       have WB := hid (WB.out.grown g (fun e => by have := Option.some.inj e; omega))
       have BB := hid (BB.out.grown g (fun e => by have := Option.some.inj e; omega))
       have HB := hid (HB.out.trans (grown_below g (by omega) (by omega)))
       clear b g z hfl FL5
       refine Hid.out ?_)
    | fail)
  refine hid ?_
  have kWB0 : v8.cell? ⟨w.heap.size, 0, none⟩ = some (.int .i64 y0) := (BoxAt.cell WB.out 0).trans rfl
  have kWB1 : v8.cell? ⟨w.heap.size, 1, none⟩ = some (.int .i64 y1) := (BoxAt.cell WB.out 1).trans rfl
  have kWB2 : v8.cell? ⟨w.heap.size, 2, none⟩ = some (.int .i64 y2) := (BoxAt.cell WB.out 2).trans rfl
  have kBB2 : v8.cell? ⟨v3.heap.size, 2, none⟩ = some (.slice u.a u.n u.c) := (BoxAt.cell BB.out 2).trans rfl
  have kCB0 : v8.cell? ⟨v6.heap.size, 0, none⟩ = some (.bool false) := (BoxAt.cell CB.out 0).trans rfl
  have kCB2 : v8.cell? ⟨v6.heap.size, 2, none⟩ = some (.slice r.a r.n r.c) := (BoxAt.cell CB.out 2).trans rfl
  obtain ⟨ua, un, uc⟩ := u
  obtain ⟨ra, rn, rc⟩ := r
  have hun : un = l.length + 1 := HUN.out
  have hrn : rn = l.length + 1 := HRN.out
  obtain ⟨xa, xc, hxv, -, -, hxcell⟩ := HU.out.sees.form
  simp only [Sl.val, Value.slice.injEq] at hxv
  obtain ⟨hxa, -, -⟩ := hxv
  obtain ⟨xb, xo, hxx, hxw, hxc⟩ := hxcell (by rw [HAL.out]; omega)
  have hqa : ua = some ⟨xb, xo, none⟩ := hxa.trans hxx
  have e0 := hxc l.length (by rw [HAL.out]; omega) 0 (by decide)
  have e1 := hxc l.length (by rw [HAL.out]; omega) 1 (by decide)
  have e2 := hxc l.length (by rw [HAL.out]; omega) 2 (by decide)
  rw [HLA.out] at e0 e1 e2
  simp only [Wt.cells, List.getD_cons_zero, List.getD_cons_succ, Nat.add_zero] at e0 e1 e2
  subst hqa hun hrn
  clear hxc hxcell hxa hxx HU HUN HAL HLA HRN HV
  generalize l.length = N at *
  have hN9 : N ≤ 60 := by omega
  have hnn : (N : Int) < (N : Int) + 1 := by omega
  have hb1 : -9223372036854775808 ≤ (N : Int) + 1 := by omega
  have hb2 : (N : Int) + 1 ≤ 9223372036854775807 := by omega
  have hq1 := wrap64_id _ hb1 hb2
  have hq2 := wrapi_id _ hb1 hb2
  clear hb1 hb2
  have hq3 : ((N : Int) + 1 == (N : Int) + 1) = true := by simp
  have n0 : (y0 == y0) = true := by simp
  have n1 : (y1 == y1) = true := by simp
  have n2 : (y2 == y2) = true := by simp
  have E0 := hid e0
  have E1 := hid e1
  have E2 := hid e2
  have HBV := hid (Below.refl v8.heap.size v8)
  clear e0 e1 e2
  clear kWB0 kWB1 kWB2 kBB2 kCB0 kCB2
  have kWB0 : v8.cell? ⟨w.heap.size, 0, none⟩ = some (.int .i64 y0) := (BoxAt.cell WB.out 0).trans rfl
  have kWB1 : v8.cell? ⟨w.heap.size, 1, none⟩ = some (.int .i64 y1) := (BoxAt.cell WB.out 1).trans rfl
  have kWB2 : v8.cell? ⟨w.heap.size, 2, none⟩ = some (.int .i64 y2) := (BoxAt.cell WB.out 2).trans rfl
  have kBB2 : v8.cell? ⟨v3.heap.size, 2, none⟩ = some (.slice (some ⟨xb, xo, none⟩) (N + 1) uc) := (BoxAt.cell BB.out 2).trans rfl
  have kCB0 : v8.cell? ⟨v6.heap.size, 0, none⟩ = some (.bool false) := (BoxAt.cell CB.out 0).trans rfl
  have kCB2 : v8.cell? ⟨v6.heap.size, 2, none⟩ = some (.slice ra (N + 1) rc) := (BoxAt.cell CB.out 2).trans rfl
  go_wp2_with fail
  clear kWB0 kWB1 kWB2 kBB2 kCB0 kCB2
  have WB := hid (BoxAt.drew WB.out)
  have BB := hid (BoxAt.drew BB.out)
  have CB := hid (BoxAt.drew CB.out)
  have HBV := hid (HBV.out.trans (((Below.refl v8.heap.size v8).drew).mono HBV.out.size))
  have HB := hid HB.out.drew
  have hsv9 : v8.heap.size ≤ v8.drew.heap.size := Nat.le_refl _
  refine wp_region_held_drew (S := (fun w' : World => BoxAt w' (v3.heap.size) 24 #[.bool false, .int .i64 0, .slice (some ⟨xb, xo, none⟩) (N + 1) uc] ∧ BoxAt w' (v6.heap.size) 24 #[.bool false, .int .i64 0, .slice ra (N + 1) rc] ∧ BoxAt w' (w.heap.size) 26 #[.int .i64 y0, .int .i64 y1, .int .i64 y2] ∧ w'.cell? ⟨xb, xo + N * 3, none⟩ = some (.int .i64 y0) ∧ w'.cell? ⟨xb, xo + N * 3 + 1, none⟩ = some (.int .i64 y1) ∧ w'.cell? ⟨xb, xo + N * 3 + 2, none⟩ = some (.int .i64 y2))) (by kernel_rfl) (⟨BB.out, CB.out, WB.out, (HBV.out.cell (by exact hxw)).trans E0.out, (HBV.out.cell (by exact hxw)).trans E1.out, (HBV.out.cell (by exact hxw)).trans E2.out⟩) (fun hHeld => ?_)
  generalize v8.drew = v9 at *
  refine wpAnyH_take (i := 0) (oi := { dst := some 29, op := Op.move (Operand.tmp 7), type := 3, pos := "more.go:59", after := #[], guard := none }) (v := ?_) rfl (by kernel_rfl) (by kernel_rfl) (by kernel_rfl) (fun _ _ _ h => h) (Or.inl ⟨by rfl, ?_⟩) (by assumption) ?_
  rotate_left
  · (intro w hSw; (try dsimp only at hSw); go_simp; try with_reducible rfl)
  simp only [Act.put, List.setIfInBounds_toArray, List.set_cons_zero, List.set_cons_succ]
  refine wpAnyH_take (i := 1) (oi := { dst := some 30, op := Op.binOp BinOp.eql 3 (Operand.tmp 29) (Operand.const (Value.int IntKind.i64 6)) 3, type := 4, pos := "more.go:59", after := #[{ on := 0, ground := Ground.data }], guard := none }) (v := ?_) rfl (by kernel_rfl) (by kernel_rfl) (by kernel_rfl) (fun _ _ _ h => h) (Or.inl ⟨by rfl, ?_⟩) (by assumption) ?_
  rotate_left
  · (intro W hSw; (try dsimp only at hSw); obtain ⟨x0, x1, x2, x3, x4, x5⟩ := hSw; clear x0 x1 x2; go_simp; try with_reducible rfl)
  simp only [Act.put, List.setIfInBounds_toArray, List.set_cons_zero, List.set_cons_succ]
  refine wpAnyH_take (i := 2) (oi := { dst := some 31, op := Op.move (Operand.tmp 30), type := 4, pos := "more.go:59", after := #[{ on := 1, ground := Ground.data }], guard := none }) (v := ?_) rfl (by kernel_rfl) (by kernel_rfl) (by kernel_rfl) (fun _ _ _ h => h) (Or.inl ⟨by rfl, ?_⟩) (by assumption) ?_
  rotate_left
  · (intro w hSw; (try dsimp only at hSw); go_simp; try with_reducible rfl)
  simp only [Act.put, List.setIfInBounds_toArray, List.set_cons_zero, List.set_cons_succ]
  refine wpAnyH_take (i := 3) (oi := { dst := some 32, op := Op.fieldAddr 24 (Operand.tmp 6) 2, type := 0, pos := "more.go:59", after := #[{ on := 2, ground := Ground.guard }], guard := some (2, true) }) (v := ?_) rfl (by kernel_rfl) (by kernel_rfl) (by kernel_rfl) (fun _ _ _ h => h) (Or.inl ⟨by rfl, ?_⟩) (by assumption) ?_
  rotate_left
  · (intro w hSw; (try dsimp only at hSw); go_simp; try with_reducible rfl)
  simp only [Act.put, List.setIfInBounds_toArray, List.set_cons_zero, List.set_cons_succ]
  refine wpAnyH_take (i := 4) (oi := { dst := some 33, op := Op.load 22 (Operand.tmp 32), type := 22, pos := "more.go:59", after := #[{ on := 3, ground := Ground.data }, { on := 2, ground := Ground.guard }], guard := some (2, true) }) (v := ?_) rfl (by kernel_rfl) (by kernel_rfl) (by kernel_rfl) (fun _ _ _ h => h) (Or.inl ⟨by rfl, ?_⟩) (by assumption) ?_
  rotate_left
  · (intro W hSw; (try dsimp only at hSw); obtain ⟨x0, x1, x2, x3, x4, x5⟩ := hSw; have c0_0 : W.cell? ⟨v3.heap.size, 0, none⟩ = some (.bool false) := (BoxAt.cell x0 0).trans rfl; have c0_1 : W.cell? ⟨v3.heap.size, 1, none⟩ = some (.int .i64 0) := (BoxAt.cell x0 1).trans rfl; have c0_2 : W.cell? ⟨v3.heap.size, 2, none⟩ = some (.slice (some ⟨xb, xo, none⟩) (N + 1) uc) := (BoxAt.cell x0 2).trans rfl; have c1_0 : W.cell? ⟨v6.heap.size, 0, none⟩ = some (.bool false) := (BoxAt.cell x1 0).trans rfl; have c1_1 : W.cell? ⟨v6.heap.size, 1, none⟩ = some (.int .i64 0) := (BoxAt.cell x1 1).trans rfl; have c1_2 : W.cell? ⟨v6.heap.size, 2, none⟩ = some (.slice ra (N + 1) rc) := (BoxAt.cell x1 2).trans rfl; have c2_0 : W.cell? ⟨w.heap.size, 0, none⟩ = some (.int .i64 y0) := (BoxAt.cell x2 0).trans rfl; have c2_1 : W.cell? ⟨w.heap.size, 1, none⟩ = some (.int .i64 y1) := (BoxAt.cell x2 1).trans rfl; have c2_2 : W.cell? ⟨w.heap.size, 2, none⟩ = some (.int .i64 y2) := (BoxAt.cell x2 2).trans rfl; clear x0 x1 x2; go_simp; try with_reducible rfl)
  simp only [Act.put, List.setIfInBounds_toArray, List.set_cons_zero, List.set_cons_succ]
  refine wpAnyH_take (i := 5) (oi := { dst := some 34, op := Op.call { callee := Callee.builtin Builtin.len, args := #[Operand.tmp 33], argTypes := #[22] }, type := 3, pos := "more.go:59", after := #[{ on := 4, ground := Ground.data }, { on := 2, ground := Ground.guard }], guard := some (2, true) }) (v := ?_) rfl (by kernel_rfl) (by kernel_rfl) (by kernel_rfl) (fun _ _ _ h => h) (Or.inl ⟨by rfl, ?_⟩) (by assumption) ?_
  rotate_left
  · (intro w hSw; (try dsimp only at hSw); go_simp; try with_reducible rfl)
  simp only [Act.put, List.setIfInBounds_toArray, List.set_cons_zero, List.set_cons_succ]
  refine wpAnyH_take (i := 6) (oi := { dst := some 35, op := Op.move (Operand.tmp 0), type := 22, pos := "more.go:59", after := #[{ on := 2, ground := Ground.guard }], guard := some (2, true) }) (v := ?_) rfl (by kernel_rfl) (by kernel_rfl) (by kernel_rfl) (fun _ _ _ h => h) (Or.inl ⟨by rfl, ?_⟩) (by assumption) ?_
  rotate_left
  · (intro w hSw; (try dsimp only at hSw); go_simp; try with_reducible rfl)
  simp only [Act.put, List.setIfInBounds_toArray, List.set_cons_zero, List.set_cons_succ]
  refine wpAnyH_take (i := 7) (oi := { dst := some 36, op := Op.call { callee := Callee.builtin Builtin.len, args := #[Operand.tmp 35], argTypes := #[22] }, type := 3, pos := "more.go:59", after := #[{ on := 6, ground := Ground.data }, { on := 2, ground := Ground.guard }], guard := some (2, true) }) (v := ?_) rfl (by kernel_rfl) (by kernel_rfl) (by kernel_rfl) (fun _ _ _ h => h) (Or.inl ⟨by rfl, ?_⟩) (by assumption) ?_
  rotate_left
  · (intro w hSw; (try dsimp only at hSw); go_simp; try with_reducible rfl)
  simp only [Act.put, List.setIfInBounds_toArray, List.set_cons_zero, List.set_cons_succ]
  refine wpAnyH_take (i := 8) (oi := { dst := some 37, op := Op.binOp BinOp.add 3 (Operand.tmp 36) (Operand.const (Value.int IntKind.i64 1)) 3, type := 3, pos := "more.go:59", after := #[{ on := 7, ground := Ground.data }, { on := 2, ground := Ground.guard }], guard := some (2, true) }) (v := ?_) rfl (by kernel_rfl) (by kernel_rfl) (by kernel_rfl) (fun _ _ _ h => h) (Or.inl ⟨by rfl, ?_⟩) (by assumption) ?_
  rotate_left
  · (intro W hSw; (try dsimp only at hSw); obtain ⟨x0, x1, x2, x3, x4, x5⟩ := hSw; clear x0 x1 x2; go_simp; try with_reducible rfl)
  simp only [Act.put, List.setIfInBounds_toArray, List.set_cons_zero, List.set_cons_succ]
  refine wpAnyH_take (i := 9) (oi := { dst := some 38, op := Op.binOp BinOp.eql 3 (Operand.tmp 34) (Operand.tmp 37) 3, type := 4, pos := "more.go:59", after := #[{ on := 5, ground := Ground.data }, { on := 8, ground := Ground.data }, { on := 2, ground := Ground.guard }], guard := some (2, true) }) (v := ?_) rfl (by kernel_rfl) (by kernel_rfl) (by kernel_rfl) (fun _ _ _ h => h) (Or.inl ⟨by rfl, ?_⟩) (by assumption) ?_
  rotate_left
  · (intro W hSw; (try dsimp only at hSw); obtain ⟨x0, x1, x2, x3, x4, x5⟩ := hSw; clear x0 x1 x2; go_simp; try with_reducible rfl)
  simp only [Act.put, List.setIfInBounds_toArray, List.set_cons_zero, List.set_cons_succ]
  refine wpAnyH_take (i := 10) (oi := { dst := some 39, op := Op.pick (Operand.tmp 31) (Operand.tmp 38) (Operand.const (Value.bool false)), type := 4, pos := "more.go:59", after := #[{ on := 2, ground := Ground.data }, { on := 9, ground := Ground.data }], guard := none }) (v := ?_) rfl (by kernel_rfl) (by kernel_rfl) (by kernel_rfl) (fun _ _ _ h => h) (Or.inl ⟨by rfl, ?_⟩) (by assumption) ?_
  rotate_left
  · (intro w hSw; (try dsimp only at hSw); go_simp; try with_reducible rfl)
  simp only [Act.put, List.setIfInBounds_toArray, List.set_cons_zero, List.set_cons_succ]
  refine wpAnyH_take (i := 11) (oi := { dst := some 40, op := Op.move (Operand.tmp 39), type := 4, pos := "more.go:59", after := #[{ on := 10, ground := Ground.data }, { on := 2, ground := Ground.chain }], guard := none }) (v := ?_) rfl (by kernel_rfl) (by kernel_rfl) (by kernel_rfl) (fun _ _ _ h => h) (Or.inl ⟨by rfl, ?_⟩) (by assumption) ?_
  rotate_left
  · (intro w hSw; (try dsimp only at hSw); go_simp; try with_reducible rfl)
  simp only [Act.put, List.setIfInBounds_toArray, List.set_cons_zero, List.set_cons_succ]
  refine wpAnyH_take (i := 12) (oi := { dst := some 41, op := Op.fieldAddr 24 (Operand.tmp 6) 2, type := 0, pos := "more.go:59", after := #[{ on := 11, ground := Ground.guard }], guard := some (11, true) }) (v := ?_) rfl (by kernel_rfl) (by kernel_rfl) (by kernel_rfl) (fun _ _ _ h => h) (Or.inl ⟨by rfl, ?_⟩) (by assumption) ?_
  rotate_left
  · (intro w hSw; (try dsimp only at hSw); go_simp; try with_reducible rfl)
  simp only [Act.put, List.setIfInBounds_toArray, List.set_cons_zero, List.set_cons_succ]
  refine wpAnyH_take (i := 13) (oi := { dst := some 42, op := Op.load 22 (Operand.tmp 41), type := 22, pos := "more.go:59", after := #[{ on := 12, ground := Ground.data }, { on := 11, ground := Ground.guard }], guard := some (11, true) }) (v := ?_) rfl (by kernel_rfl) (by kernel_rfl) (by kernel_rfl) (fun _ _ _ h => h) (Or.inl ⟨by rfl, ?_⟩) (by assumption) ?_
  rotate_left
  · (intro W hSw; (try dsimp only at hSw); obtain ⟨x0, x1, x2, x3, x4, x5⟩ := hSw; have c0_0 : W.cell? ⟨v3.heap.size, 0, none⟩ = some (.bool false) := (BoxAt.cell x0 0).trans rfl; have c0_1 : W.cell? ⟨v3.heap.size, 1, none⟩ = some (.int .i64 0) := (BoxAt.cell x0 1).trans rfl; have c0_2 : W.cell? ⟨v3.heap.size, 2, none⟩ = some (.slice (some ⟨xb, xo, none⟩) (N + 1) uc) := (BoxAt.cell x0 2).trans rfl; have c1_0 : W.cell? ⟨v6.heap.size, 0, none⟩ = some (.bool false) := (BoxAt.cell x1 0).trans rfl; have c1_1 : W.cell? ⟨v6.heap.size, 1, none⟩ = some (.int .i64 0) := (BoxAt.cell x1 1).trans rfl; have c1_2 : W.cell? ⟨v6.heap.size, 2, none⟩ = some (.slice ra (N + 1) rc) := (BoxAt.cell x1 2).trans rfl; have c2_0 : W.cell? ⟨w.heap.size, 0, none⟩ = some (.int .i64 y0) := (BoxAt.cell x2 0).trans rfl; have c2_1 : W.cell? ⟨w.heap.size, 1, none⟩ = some (.int .i64 y1) := (BoxAt.cell x2 1).trans rfl; have c2_2 : W.cell? ⟨w.heap.size, 2, none⟩ = some (.int .i64 y2) := (BoxAt.cell x2 2).trans rfl; clear x0 x1 x2; go_simp; try with_reducible rfl)
  simp only [Act.put, List.setIfInBounds_toArray, List.set_cons_zero, List.set_cons_succ]
  refine wpAnyH_take (i := 14) (oi := { dst := some 43, op := Op.move (Operand.tmp 0), type := 22, pos := "more.go:59", after := #[{ on := 11, ground := Ground.guard }], guard := some (11, true) }) (v := ?_) rfl (by kernel_rfl) (by kernel_rfl) (by kernel_rfl) (fun _ _ _ h => h) (Or.inl ⟨by rfl, ?_⟩) (by assumption) ?_
  rotate_left
  · (intro w hSw; (try dsimp only at hSw); go_simp; try with_reducible rfl)
  simp only [Act.put, List.setIfInBounds_toArray, List.set_cons_zero, List.set_cons_succ]
  refine wpAnyH_take (i := 15) (oi := { dst := some 44, op := Op.call { callee := Callee.builtin Builtin.len, args := #[Operand.tmp 43], argTypes := #[22] }, type := 3, pos := "more.go:59", after := #[{ on := 14, ground := Ground.data }, { on := 11, ground := Ground.guard }], guard := some (11, true) }) (v := ?_) rfl (by kernel_rfl) (by kernel_rfl) (by kernel_rfl) (fun _ _ _ h => h) (Or.inl ⟨by rfl, ?_⟩) (by assumption) ?_
  rotate_left
  · (intro w hSw; (try dsimp only at hSw); go_simp; try with_reducible rfl)
  simp only [Act.put, List.setIfInBounds_toArray, List.set_cons_zero, List.set_cons_succ]
  refine wpAnyH_take (i := 16) (oi := { dst := some 45, op := Op.indexAddr 22 (Operand.tmp 42) (Operand.tmp 44), type := 0, pos := "more.go:59", after := #[{ on := 13, ground := Ground.data }, { on := 15, ground := Ground.data }, { on := 11, ground := Ground.guard }], guard := some (11, true) }) (v := ?_) rfl (by kernel_rfl) (by kernel_rfl) (by kernel_rfl) (fun _ _ _ h => h) (Or.inl ⟨by rfl, ?_⟩) (by assumption) ?_
  rotate_left
  · (intro w hSw; (try dsimp only at hSw); go_simp; try with_reducible rfl)
  simp only [Act.put, List.setIfInBounds_toArray, List.set_cons_zero, List.set_cons_succ]
  refine wpAnyH_take (i := 17) (oi := { dst := some 46, op := Op.load 26 (Operand.tmp 45), type := 26, pos := "more.go:59", after := #[{ on := 16, ground := Ground.data }, { on := 11, ground := Ground.guard }], guard := some (11, true) }) (v := ?_) rfl (by kernel_rfl) (by kernel_rfl) (by kernel_rfl) (fun _ _ _ h => h) (Or.inl ⟨by rfl, ?_⟩) (by assumption) ?_
  rotate_left
  · (intro W hSw; (try dsimp only at hSw); obtain ⟨x0, x1, x2, x3, x4, x5⟩ := hSw; have c0_0 : W.cell? ⟨v3.heap.size, 0, none⟩ = some (.bool false) := (BoxAt.cell x0 0).trans rfl; have c0_1 : W.cell? ⟨v3.heap.size, 1, none⟩ = some (.int .i64 0) := (BoxAt.cell x0 1).trans rfl; have c0_2 : W.cell? ⟨v3.heap.size, 2, none⟩ = some (.slice (some ⟨xb, xo, none⟩) (N + 1) uc) := (BoxAt.cell x0 2).trans rfl; have c1_0 : W.cell? ⟨v6.heap.size, 0, none⟩ = some (.bool false) := (BoxAt.cell x1 0).trans rfl; have c1_1 : W.cell? ⟨v6.heap.size, 1, none⟩ = some (.int .i64 0) := (BoxAt.cell x1 1).trans rfl; have c1_2 : W.cell? ⟨v6.heap.size, 2, none⟩ = some (.slice ra (N + 1) rc) := (BoxAt.cell x1 2).trans rfl; have c2_0 : W.cell? ⟨w.heap.size, 0, none⟩ = some (.int .i64 y0) := (BoxAt.cell x2 0).trans rfl; have c2_1 : W.cell? ⟨w.heap.size, 1, none⟩ = some (.int .i64 y1) := (BoxAt.cell x2 1).trans rfl; have c2_2 : W.cell? ⟨w.heap.size, 2, none⟩ = some (.int .i64 y2) := (BoxAt.cell x2 2).trans rfl; clear x0 x1 x2; go_simp; try with_reducible rfl)
  simp only [Act.put, List.setIfInBounds_toArray, List.set_cons_zero, List.set_cons_succ]
  refine wpAnyH_take (i := 18) (oi := { dst := some 47, op := Op.load 26 (Operand.tmp 3), type := 26, pos := "more.go:59", after := #[{ on := 11, ground := Ground.guard }], guard := some (11, true) }) (v := ?_) rfl (by kernel_rfl) (by kernel_rfl) (by kernel_rfl) (fun _ _ _ h => h) (Or.inl ⟨by rfl, ?_⟩) (by assumption) ?_
  rotate_left
  · (intro W hSw; (try dsimp only at hSw); obtain ⟨x0, x1, x2, x3, x4, x5⟩ := hSw; have c0_0 : W.cell? ⟨v3.heap.size, 0, none⟩ = some (.bool false) := (BoxAt.cell x0 0).trans rfl; have c0_1 : W.cell? ⟨v3.heap.size, 1, none⟩ = some (.int .i64 0) := (BoxAt.cell x0 1).trans rfl; have c0_2 : W.cell? ⟨v3.heap.size, 2, none⟩ = some (.slice (some ⟨xb, xo, none⟩) (N + 1) uc) := (BoxAt.cell x0 2).trans rfl; have c1_0 : W.cell? ⟨v6.heap.size, 0, none⟩ = some (.bool false) := (BoxAt.cell x1 0).trans rfl; have c1_1 : W.cell? ⟨v6.heap.size, 1, none⟩ = some (.int .i64 0) := (BoxAt.cell x1 1).trans rfl; have c1_2 : W.cell? ⟨v6.heap.size, 2, none⟩ = some (.slice ra (N + 1) rc) := (BoxAt.cell x1 2).trans rfl; have c2_0 : W.cell? ⟨w.heap.size, 0, none⟩ = some (.int .i64 y0) := (BoxAt.cell x2 0).trans rfl; have c2_1 : W.cell? ⟨w.heap.size, 1, none⟩ = some (.int .i64 y1) := (BoxAt.cell x2 1).trans rfl; have c2_2 : W.cell? ⟨w.heap.size, 2, none⟩ = some (.int .i64 y2) := (BoxAt.cell x2 2).trans rfl; clear x0 x1 x2; go_simp; try with_reducible rfl)
  simp only [Act.put, List.setIfInBounds_toArray, List.set_cons_zero, List.set_cons_succ]
  refine wpAnyH_take (i := 19) (oi := { dst := some 48, op := Op.binOp BinOp.eql 26 (Operand.tmp 46) (Operand.tmp 47) 26, type := 4, pos := "more.go:59", after := #[{ on := 17, ground := Ground.data }, { on := 18, ground := Ground.data }, { on := 11, ground := Ground.guard }], guard := some (11, true) }) (v := ?_) rfl (by kernel_rfl) (by kernel_rfl) (by kernel_rfl) (fun _ _ _ h => h) (Or.inl ⟨by rfl, ?_⟩) (by assumption) ?_
  rotate_left
  · (intro W hSw; (try dsimp only at hSw); obtain ⟨x0, x1, x2, x3, x4, x5⟩ := hSw; clear x0 x1 x2; go_simp; try with_reducible rfl)
  simp only [Act.put, List.setIfInBounds_toArray, List.set_cons_zero, List.set_cons_succ]
  refine wpAnyH_take (i := 20) (oi := { dst := some 49, op := Op.pick (Operand.tmp 40) (Operand.tmp 48) (Operand.const (Value.bool false)), type := 4, pos := "more.go:59", after := #[{ on := 11, ground := Ground.data }, { on := 19, ground := Ground.data }], guard := none }) (v := ?_) rfl (by kernel_rfl) (by kernel_rfl) (by kernel_rfl) (fun _ _ _ h => h) (Or.inl ⟨by rfl, ?_⟩) (by assumption) ?_
  rotate_left
  · (intro w hSw; (try dsimp only at hSw); go_simp; try with_reducible rfl)
  simp only [Act.put, List.setIfInBounds_toArray, List.set_cons_zero, List.set_cons_succ]
  refine wpAnyH_take (i := 21) (oi := { dst := some 50, op := Op.move (Operand.tmp 49), type := 4, pos := "more.go:59", after := #[{ on := 20, ground := Ground.data }, { on := 11, ground := Ground.chain }], guard := none }) (v := ?_) rfl (by kernel_rfl) (by kernel_rfl) (by kernel_rfl) (fun _ _ _ h => h) (Or.inl ⟨by rfl, ?_⟩) (by assumption) ?_
  rotate_left
  · (intro w hSw; (try dsimp only at hSw); go_simp; try with_reducible rfl)
  simp only [Act.put, List.setIfInBounds_toArray, List.set_cons_zero, List.set_cons_succ]
  refine wpAnyH_take (i := 22) (oi := { dst := some 51, op := Op.fieldAddr 24 (Operand.tmp 9) 2, type := 0, pos := "more.go:59", after := #[{ on := 21, ground := Ground.guard }], guard := some (21, true) }) (v := ?_) rfl (by kernel_rfl) (by kernel_rfl) (by kernel_rfl) (fun _ _ _ h => h) (Or.inl ⟨by rfl, ?_⟩) (by assumption) ?_
  rotate_left
  · (intro w hSw; (try dsimp only at hSw); go_simp; try with_reducible rfl)
  simp only [Act.put, List.setIfInBounds_toArray, List.set_cons_zero, List.set_cons_succ]
  refine wpAnyH_take (i := 23) (oi := { dst := some 52, op := Op.load 22 (Operand.tmp 51), type := 22, pos := "more.go:59", after := #[{ on := 22, ground := Ground.data }, { on := 21, ground := Ground.guard }], guard := some (21, true) }) (v := ?_) rfl (by kernel_rfl) (by kernel_rfl) (by kernel_rfl) (fun _ _ _ h => h) (Or.inl ⟨by rfl, ?_⟩) (by assumption) ?_
  rotate_left
  · (intro W hSw; (try dsimp only at hSw); obtain ⟨x0, x1, x2, x3, x4, x5⟩ := hSw; have c0_0 : W.cell? ⟨v3.heap.size, 0, none⟩ = some (.bool false) := (BoxAt.cell x0 0).trans rfl; have c0_1 : W.cell? ⟨v3.heap.size, 1, none⟩ = some (.int .i64 0) := (BoxAt.cell x0 1).trans rfl; have c0_2 : W.cell? ⟨v3.heap.size, 2, none⟩ = some (.slice (some ⟨xb, xo, none⟩) (N + 1) uc) := (BoxAt.cell x0 2).trans rfl; have c1_0 : W.cell? ⟨v6.heap.size, 0, none⟩ = some (.bool false) := (BoxAt.cell x1 0).trans rfl; have c1_1 : W.cell? ⟨v6.heap.size, 1, none⟩ = some (.int .i64 0) := (BoxAt.cell x1 1).trans rfl; have c1_2 : W.cell? ⟨v6.heap.size, 2, none⟩ = some (.slice ra (N + 1) rc) := (BoxAt.cell x1 2).trans rfl; have c2_0 : W.cell? ⟨w.heap.size, 0, none⟩ = some (.int .i64 y0) := (BoxAt.cell x2 0).trans rfl; have c2_1 : W.cell? ⟨w.heap.size, 1, none⟩ = some (.int .i64 y1) := (BoxAt.cell x2 1).trans rfl; have c2_2 : W.cell? ⟨w.heap.size, 2, none⟩ = some (.int .i64 y2) := (BoxAt.cell x2 2).trans rfl; clear x0 x1 x2; go_simp; try with_reducible rfl)
  simp only [Act.put, List.setIfInBounds_toArray, List.set_cons_zero, List.set_cons_succ]
  refine wpAnyH_take (i := 24) (oi := { dst := some 53, op := Op.call { callee := Callee.builtin Builtin.len, args := #[Operand.tmp 52], argTypes := #[22] }, type := 3, pos := "more.go:59", after := #[{ on := 23, ground := Ground.data }, { on := 21, ground := Ground.guard }], guard := some (21, true) }) (v := ?_) rfl (by kernel_rfl) (by kernel_rfl) (by kernel_rfl) (fun _ _ _ h => h) (Or.inl ⟨by rfl, ?_⟩) (by assumption) ?_
  rotate_left
  · (intro w hSw; (try dsimp only at hSw); go_simp; try with_reducible rfl)
  simp only [Act.put, List.setIfInBounds_toArray, List.set_cons_zero, List.set_cons_succ]
  refine wpAnyH_take (i := 25) (oi := { dst := some 54, op := Op.fieldAddr 24 (Operand.tmp 6) 2, type := 0, pos := "more.go:59", after := #[{ on := 21, ground := Ground.guard }], guard := some (21, true) }) (v := ?_) rfl (by kernel_rfl) (by kernel_rfl) (by kernel_rfl) (fun _ _ _ h => h) (Or.inl ⟨by rfl, ?_⟩) (by assumption) ?_
  rotate_left
  · (intro w hSw; (try dsimp only at hSw); go_simp; try with_reducible rfl)
  simp only [Act.put, List.setIfInBounds_toArray, List.set_cons_zero, List.set_cons_succ]
  refine wpAnyH_take (i := 26) (oi := { dst := some 55, op := Op.load 22 (Operand.tmp 54), type := 22, pos := "more.go:59", after := #[{ on := 25, ground := Ground.data }, { on := 21, ground := Ground.guard }], guard := some (21, true) }) (v := ?_) rfl (by kernel_rfl) (by kernel_rfl) (by kernel_rfl) (fun _ _ _ h => h) (Or.inl ⟨by rfl, ?_⟩) (by assumption) ?_
  rotate_left
  · (intro W hSw; (try dsimp only at hSw); obtain ⟨x0, x1, x2, x3, x4, x5⟩ := hSw; have c0_0 : W.cell? ⟨v3.heap.size, 0, none⟩ = some (.bool false) := (BoxAt.cell x0 0).trans rfl; have c0_1 : W.cell? ⟨v3.heap.size, 1, none⟩ = some (.int .i64 0) := (BoxAt.cell x0 1).trans rfl; have c0_2 : W.cell? ⟨v3.heap.size, 2, none⟩ = some (.slice (some ⟨xb, xo, none⟩) (N + 1) uc) := (BoxAt.cell x0 2).trans rfl; have c1_0 : W.cell? ⟨v6.heap.size, 0, none⟩ = some (.bool false) := (BoxAt.cell x1 0).trans rfl; have c1_1 : W.cell? ⟨v6.heap.size, 1, none⟩ = some (.int .i64 0) := (BoxAt.cell x1 1).trans rfl; have c1_2 : W.cell? ⟨v6.heap.size, 2, none⟩ = some (.slice ra (N + 1) rc) := (BoxAt.cell x1 2).trans rfl; have c2_0 : W.cell? ⟨w.heap.size, 0, none⟩ = some (.int .i64 y0) := (BoxAt.cell x2 0).trans rfl; have c2_1 : W.cell? ⟨w.heap.size, 1, none⟩ = some (.int .i64 y1) := (BoxAt.cell x2 1).trans rfl; have c2_2 : W.cell? ⟨w.heap.size, 2, none⟩ = some (.int .i64 y2) := (BoxAt.cell x2 2).trans rfl; clear x0 x1 x2; go_simp; try with_reducible rfl)
  simp only [Act.put, List.setIfInBounds_toArray, List.set_cons_zero, List.set_cons_succ]
  refine wpAnyH_take (i := 27) (oi := { dst := some 56, op := Op.call { callee := Callee.builtin Builtin.len, args := #[Operand.tmp 55], argTypes := #[22] }, type := 3, pos := "more.go:59", after := #[{ on := 26, ground := Ground.data }, { on := 21, ground := Ground.guard }], guard := some (21, true) }) (v := ?_) rfl (by kernel_rfl) (by kernel_rfl) (by kernel_rfl) (fun _ _ _ h => h) (Or.inl ⟨by rfl, ?_⟩) (by assumption) ?_
  rotate_left
  · (intro w hSw; (try dsimp only at hSw); go_simp; try with_reducible rfl)
  simp only [Act.put, List.setIfInBounds_toArray, List.set_cons_zero, List.set_cons_succ]
  refine wpAnyH_take (i := 28) (oi := { dst := some 57, op := Op.binOp BinOp.eql 3 (Operand.tmp 53) (Operand.tmp 56) 3, type := 4, pos := "more.go:59", after := #[{ on := 24, ground := Ground.data }, { on := 27, ground := Ground.data }, { on := 21, ground := Ground.guard }], guard := some (21, true) }) (v := ?_) rfl (by kernel_rfl) (by kernel_rfl) (by kernel_rfl) (fun _ _ _ h => h) (Or.inl ⟨by rfl, ?_⟩) (by assumption) ?_
  rotate_left
  · (intro W hSw; (try dsimp only at hSw); obtain ⟨x0, x1, x2, x3, x4, x5⟩ := hSw; clear x0 x1 x2; go_simp; try with_reducible rfl)
  simp only [Act.put, List.setIfInBounds_toArray, List.set_cons_zero, List.set_cons_succ]
  refine wpAnyH_take (i := 29) (oi := { dst := some 58, op := Op.pick (Operand.tmp 50) (Operand.tmp 57) (Operand.const (Value.bool false)), type := 4, pos := "more.go:59", after := #[{ on := 21, ground := Ground.data }, { on := 28, ground := Ground.data }], guard := none }) (v := ?_) rfl (by kernel_rfl) (by kernel_rfl) (by kernel_rfl) (fun _ _ _ h => h) (Or.inl ⟨by rfl, ?_⟩) (by assumption) ?_
  rotate_left
  · (intro w hSw; (try dsimp only at hSw); go_simp; try with_reducible rfl)
  simp only [Act.put, List.setIfInBounds_toArray, List.set_cons_zero, List.set_cons_succ]
  refine wpAnyH_take (i := 30) (oi := { dst := some 59, op := Op.move (Operand.tmp 58), type := 4, pos := "more.go:59", after := #[{ on := 29, ground := Ground.data }, { on := 21, ground := Ground.chain }], guard := none }) (v := ?_) rfl (by kernel_rfl) (by kernel_rfl) (by kernel_rfl) (fun _ _ _ h => h) (Or.inl ⟨by rfl, ?_⟩) (by assumption) ?_
  rotate_left
  · (intro w hSw; (try dsimp only at hSw); go_simp; try with_reducible rfl)
  simp only [Act.put, List.setIfInBounds_toArray, List.set_cons_zero, List.set_cons_succ]
  refine wpAnyH_take (i := 31) (oi := { dst := some 60, op := Op.fieldAddr 24 (Operand.tmp 9) 0, type := 0, pos := "more.go:59", after := #[{ on := 30, ground := Ground.guard }], guard := some (30, true) }) (v := ?_) rfl (by kernel_rfl) (by kernel_rfl) (by kernel_rfl) (fun _ _ _ h => h) (Or.inl ⟨by rfl, ?_⟩) (by assumption) ?_
  rotate_left
  · (intro w hSw; (try dsimp only at hSw); go_simp; try with_reducible rfl)
  simp only [Act.put, List.setIfInBounds_toArray, List.set_cons_zero, List.set_cons_succ]
  refine wpAnyH_take (i := 32) (oi := { dst := some 61, op := Op.load 4 (Operand.tmp 60), type := 4, pos := "more.go:59", after := #[{ on := 31, ground := Ground.data }, { on := 30, ground := Ground.guard }], guard := some (30, true) }) (v := ?_) rfl (by kernel_rfl) (by kernel_rfl) (by kernel_rfl) (fun _ _ _ h => h) (Or.inl ⟨by rfl, ?_⟩) (by assumption) ?_
  rotate_left
  · (intro W hSw; (try dsimp only at hSw); obtain ⟨x0, x1, x2, x3, x4, x5⟩ := hSw; have c0_0 : W.cell? ⟨v3.heap.size, 0, none⟩ = some (.bool false) := (BoxAt.cell x0 0).trans rfl; have c0_1 : W.cell? ⟨v3.heap.size, 1, none⟩ = some (.int .i64 0) := (BoxAt.cell x0 1).trans rfl; have c0_2 : W.cell? ⟨v3.heap.size, 2, none⟩ = some (.slice (some ⟨xb, xo, none⟩) (N + 1) uc) := (BoxAt.cell x0 2).trans rfl; have c1_0 : W.cell? ⟨v6.heap.size, 0, none⟩ = some (.bool false) := (BoxAt.cell x1 0).trans rfl; have c1_1 : W.cell? ⟨v6.heap.size, 1, none⟩ = some (.int .i64 0) := (BoxAt.cell x1 1).trans rfl; have c1_2 : W.cell? ⟨v6.heap.size, 2, none⟩ = some (.slice ra (N + 1) rc) := (BoxAt.cell x1 2).trans rfl; have c2_0 : W.cell? ⟨w.heap.size, 0, none⟩ = some (.int .i64 y0) := (BoxAt.cell x2 0).trans rfl; have c2_1 : W.cell? ⟨w.heap.size, 1, none⟩ = some (.int .i64 y1) := (BoxAt.cell x2 1).trans rfl; have c2_2 : W.cell? ⟨w.heap.size, 2, none⟩ = some (.int .i64 y2) := (BoxAt.cell x2 2).trans rfl; clear x0 x1 x2; go_simp; try with_reducible rfl)
  simp only [Act.put, List.setIfInBounds_toArray, List.set_cons_zero, List.set_cons_succ]
  refine wpAnyH_take (i := 33) (oi := { dst := some 62, op := Op.unOp UnOp.not 4 (Operand.tmp 61), type := 4, pos := "more.go:59", after := #[{ on := 32, ground := Ground.data }, { on := 30, ground := Ground.guard }], guard := some (30, true) }) (v := ?_) rfl (by kernel_rfl) (by kernel_rfl) (by kernel_rfl) (fun _ _ _ h => h) (Or.inl ⟨by rfl, ?_⟩) (by assumption) ?_
  rotate_left
  · (intro w hSw; (try dsimp only at hSw); go_simp; try with_reducible rfl)
  simp only [Act.put, List.setIfInBounds_toArray, List.set_cons_zero, List.set_cons_succ]
  refine wpAnyH_take (i := 34) (oi := { dst := some 63, op := Op.pick (Operand.tmp 59) (Operand.tmp 62) (Operand.const (Value.bool false)), type := 4, pos := "more.go:59", after := #[{ on := 30, ground := Ground.data }, { on := 33, ground := Ground.data }], guard := none }) (v := ?_) rfl (by kernel_rfl) (by kernel_rfl) (by kernel_rfl) (fun _ _ _ h => h) (Or.inl ⟨by rfl, ?_⟩) (by assumption) ?_
  rotate_left
  · (intro w hSw; (try dsimp only at hSw); go_simp; try with_reducible rfl)
  simp only [Act.put, List.setIfInBounds_toArray, List.set_cons_zero, List.set_cons_succ]
  refine wpAnyH_take (i := 35) (oi := { dst := some 4, op := Op.assign (Operand.tmp 63), type := 4, pos := "more.go:59", after := #[{ on := 34, ground := Ground.data }, { on := 30, ground := Ground.chain }, { on := 0, ground := Ground.phase }, { on := 1, ground := Ground.phase }, { on := 2, ground := Ground.phase }, { on := 3, ground := Ground.phase }, { on := 4, ground := Ground.phase }, { on := 5, ground := Ground.phase }, { on := 6, ground := Ground.phase }, { on := 7, ground := Ground.phase }, { on := 8, ground := Ground.phase }, { on := 9, ground := Ground.phase }, { on := 10, ground := Ground.phase }, { on := 11, ground := Ground.phase }, { on := 12, ground := Ground.phase }, { on := 13, ground := Ground.phase }, { on := 14, ground := Ground.phase }, { on := 15, ground := Ground.phase }, { on := 16, ground := Ground.phase }, { on := 17, ground := Ground.phase }, { on := 18, ground := Ground.phase }, { on := 19, ground := Ground.phase }, { on := 20, ground := Ground.phase }, { on := 21, ground := Ground.phase }, { on := 22, ground := Ground.phase }, { on := 23, ground := Ground.phase }, { on := 24, ground := Ground.phase }, { on := 25, ground := Ground.phase }, { on := 26, ground := Ground.phase }, { on := 27, ground := Ground.phase }, { on := 28, ground := Ground.phase }, { on := 29, ground := Ground.phase }, { on := 30, ground := Ground.phase }, { on := 31, ground := Ground.phase }, { on := 32, ground := Ground.phase }, { on := 33, ground := Ground.phase }, { on := 34, ground := Ground.phase }], guard := none }) (v := ?_) rfl (by kernel_rfl) (by kernel_rfl) (by kernel_rfl) (fun _ _ _ h => h) (Or.inl ⟨by rfl, ?_⟩) (by assumption) ?_
  rotate_left
  · (intro w hSw; (try dsimp only at hSw); go_simp; try with_reducible rfl)
  simp only [Act.put, List.setIfInBounds_toArray, List.set_cons_zero, List.set_cons_succ]
  refine wpAnyH_done (by kernel_rfl) ?_ _
  clear hHeld
  have kWB0 : v9.cell? ⟨w.heap.size, 0, none⟩ = some (.int .i64 y0) := (BoxAt.cell WB.out 0).trans rfl
  have kWB1 : v9.cell? ⟨w.heap.size, 1, none⟩ = some (.int .i64 y1) := (BoxAt.cell WB.out 1).trans rfl
  have kWB2 : v9.cell? ⟨w.heap.size, 2, none⟩ = some (.int .i64 y2) := (BoxAt.cell WB.out 2).trans rfl
  have kBB2 : v9.cell? ⟨v3.heap.size, 2, none⟩ = some (.slice (some ⟨xb, xo, none⟩) (N + 1) uc) := (BoxAt.cell BB.out 2).trans rfl
  have kCB0 : v9.cell? ⟨v6.heap.size, 0, none⟩ = some (.bool false) := (BoxAt.cell CB.out 0).trans rfl
  have kCB2 : v9.cell? ⟨v6.heap.size, 2, none⟩ = some (.slice ra (N + 1) rc) := (BoxAt.cell CB.out 2).trans rfl
  go_wp2
  go_ret
  exact ⟨rfl, HB.out⟩

end Go.Proofs.Ytpojoflhmbnfmaa
