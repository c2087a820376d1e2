/-
  What the document's Write, Clear, Read and Same return, whatever boards they are given.
-/
import Derived.Test.YtpojoflhmbnfmaaBd1
import Derived.Test.YtpojoflhmbnfmaaVRef2
namespace Go.Proofs.Ytpojoflhmbnfmaa
open Go.RowKit
set_option linter.unusedVariables false


set_option maxRecDepth 100000 in
set_option maxHeartbeats 1600000 in
theorem rbwrite_any (is : Bool) (v x : Int) {s : Sl} {l : List Wt} {w : World} (hs : SeesWt w s.val l) (hl : l.length ≤ 800000) :
    Calls Try.prog 10 #[BdV.val ⟨is, v, s⟩, .int .i64 x] w fun e w' => ∃ u, e = .returned (.tuple #[BdV.val ⟨true, x, ⟨none, 0, 0⟩⟩, u]) ∧ OWk w' w.heap.size u (allP l 0 x) ∧ Below w.heap.size w w' := by
  have HV := hid hs
  obtain ⟨a, c, hsv, hc1, hc2, -⟩ := hs.form
  obtain ⟨sa, sn, sc⟩ := s
  simp only [Sl.val, Value.slice.injEq] at hsv
  obtain ⟨rfl, rfl, rfl⟩ := hsv
  unfold maxLen at hc2
  simp only [Sl.val] at HV
  clear hs
  unfold BdV.val
  simp only
  have HB := hid (Below.refl w.heap.size w)
  go_enter Try.func10, Try.ntmps10
  have FL1 := hid trivial
  have FL2 := hid trivial
  go_wp2_with (first
    | (have hfl := FL1.out
       refine wpList_box rfl 24 (.tmp 0) rfl #[.bool is, .int .i64 v, .slice sa l.length sc] rfl ?_
       intro v1 b h z
       have PB := hid (show BoxAt v1 w.heap.size 24 #[.bool is, .int .i64 v, .slice sa l.length sc] from b)
       have HB := hid (HB.out.trans (h.mono HB.out.size))
       have hsv1 : w.heap.size + 1 ≤ v1.heap.size := by first | exact h.size | omega
       clear b h z hfl FL1)
    | (have hfl := FL2.out
       refine wpList_new rfl 24 rfl _ Try.zeroBd ?_
       intro v2 b h z
       have RB := hid (show BoxAt v2 v1.heap.size 24 #[.bool false, .int .i64 0, .slice none 0 0] from b)
       have PB := hid (PB.out.belowAll h)
       have HB := hid (HB.out.trans (h.mono HB.out.size))
       have hsv2 : v1.heap.size + 1 ≤ v2.heap.size := by first | exact h.size | omega
       clear b h z hfl FL2
       refine Hid.out ?_)
    | fail)
  refine hid ?_
  have kPB2 : v2.cell? ⟨w.heap.size, 2, none⟩ = some (.slice sa l.length sc) := (BoxAt.cell PB.out 2).trans rfl
  go_wp2_with fail
  have HBs := HB.out.size
  refine (rall_any 0 x (HV.out.below HB.out) hl).mono ?_
  rintro e v3 ⟨u, rfl, hu, hb⟩
  have PB := hid (PB.out.belowAll hb)
  have RB := hid (RB.out.belowAll hb)
  have HB := hid (HB.out.trans (hb.mono HB.out.size))
  have hsv3 : v2.heap.size ≤ v3.heap.size := by first | exact hb.size | omega
  have HU := hid (hu.mono HBs)
  clear hu
  clear kPB2
  have kPB2 : v3.cell? ⟨w.heap.size, 2, none⟩ = some (.slice sa l.length sc) := (BoxAt.cell PB.out 2).trans rfl
  clear hb
  have FL3 := hid trivial
  go_wp2_with (first
    | (have hfl := FL3.out
       refine wpList_store_whole rfl 24 _ _ rfl rfl (v1.heap.size) rfl [.bool true, .int .i64 x, .slice none 0 0] rfl _ _ RB.out rfl Try.infoBd (by simp [Value.oneCell']) ?_
       intro v4 b g z
       have hsv4 : v3.heap.size ≤ v4.heap.size := by omega
       have HU := hid (HU.out.put g RB.out (by decide))
       have RB := hid (show BoxAt v4 (v1.heap.size) 24 #[.bool true, .int .i64 x, .slice none 0 0] from b)
       have PB := hid (PB.out.grown g (fun e => by have := Option.some.inj e; omega))
       have HB := hid (HB.out.trans (grown_below g (by omega) (by omega)))
       clear kPB2
       have kPB2 : v4.cell? ⟨w.heap.size, 2, none⟩ = some (.slice sa l.length sc) := (BoxAt.cell PB.out 2).trans rfl
       clear b g z hfl FL3)
    | fail)
  refine bodyPost_ret (results_box_tmp rfl _ _ (v1.heap.size) 24 _ (0, 0) _ rfl RB.out Try.underlying24 rfl Try.infoBd) rfl ?_
  exact ⟨_, rfl, HU.out, HB.out⟩

set_option maxRecDepth 100000 in
set_option maxHeartbeats 1600000 in
theorem rbclear_any (is : Bool) (v : Int) {s : Sl} {l : List Wt} {w : World} (hs : SeesWt w s.val l) (hl : l.length ≤ 800000) :
    Calls Try.prog 14 #[BdV.val ⟨is, v, s⟩] w fun e w' => ∃ u : Sl, e = .returned (BdV.val ⟨false, 0, u⟩) ∧ OWt w' w.heap.size u.val l ∧ Below w.heap.size w w' := by
  have HV := hid hs
  obtain ⟨a, c, hsv, hc1, hc2, -⟩ := hs.form
  obtain ⟨sa, sn, sc⟩ := s
  simp only [Sl.val, Value.slice.injEq] at hsv
  obtain ⟨rfl, rfl, rfl⟩ := hsv
  unfold maxLen at hc2
  simp only [Sl.val] at HV
  clear hs
  unfold BdV.val
  simp only
  have HB := hid (Below.refl w.heap.size w)
  go_enter Try.func14, Try.ntmps14
  have FL1 := hid trivial
  have FL2 := hid trivial
  go_wp2_with (first
    | (have hfl := FL1.out
       refine wpList_box rfl 24 (.tmp 0) rfl #[.bool is, .int .i64 v, .slice sa l.length sc] rfl ?_
       intro v1 b h z
       have PB := hid (show BoxAt v1 w.heap.size 24 #[.bool is, .int .i64 v, .slice sa l.length sc] from b)
       have HB := hid (HB.out.trans (h.mono HB.out.size))
       have hsv1 : w.heap.size + 1 ≤ v1.heap.size := by first | exact h.size | omega
       clear b h z hfl FL1)
    | (have hfl := FL2.out
       refine wpList_new rfl 24 rfl _ Try.zeroBd ?_
       intro v2 b h z
       have RB := hid (show BoxAt v2 v1.heap.size 24 #[.bool false, .int .i64 0, .slice none 0 0] from b)
       have PB := hid (PB.out.belowAll h)
       have HB := hid (HB.out.trans (h.mono HB.out.size))
       have hsv2 : v1.heap.size + 1 ≤ v2.heap.size := by first | exact h.size | omega
       clear b h z hfl FL2
       refine Hid.out ?_)
    | fail)
  refine hid ?_
  have kPB2 : v2.cell? ⟨w.heap.size, 2, none⟩ = some (.slice sa l.length sc) := (BoxAt.cell PB.out 2).trans rfl
  have HBs := HB.out.size
  have FL3 := hid trivial
  go_wp2_with (first
    | (have hfl := FL3.out
       at_builtin
       refine app_nilWt rfl (.tmp 4) rfl _ l rfl (HV.out.below HB.out) (by omega) ?_
       intro uv3 v3 ho h
       obtain ⟨qv3, rfl, -⟩ := ho.sl
       have PB := hid (PB.out.belowAll h)
       have RB := hid (RB.out.belowAll h)
       have HB := hid (HB.out.trans (h.mono HB.out.size))
       have hsv3 : v2.heap.size ≤ v3.heap.size := by first | exact h.size | omega
       have HM := hid ho
       clear kPB2
       have kPB2 : v3.cell? ⟨w.heap.size, 2, none⟩ = some (.slice sa l.length sc) := (BoxAt.cell PB.out 2).trans rfl
       clear ho h hfl FL3
       refine Hid.out ?_)
    | fail)
  refine hid ?_
  have HM := hid (HM.out.mono HBs)
  have FL4 := hid trivial
  go_wp2_with (first
    | (have hfl := FL4.out
       refine wpList_store_whole rfl 24 _ _ rfl rfl (v1.heap.size) rfl [.bool false, .int .i64 0, .slice qv3.a qv3.n qv3.c] rfl _ _ RB.out rfl Try.infoBd (by simp [Value.oneCell']) ?_
       intro v4 b g z
       have hsv4 : v3.heap.size ≤ v4.heap.size := by omega
       have HM := hid (HM.out.put g RB.out (by decide))
       have RB := hid (show BoxAt v4 (v1.heap.size) 24 #[.bool false, .int .i64 0, .slice qv3.a qv3.n qv3.c] from b)
       have PB := hid (PB.out.grown g (fun e => by have := Option.some.inj e; omega))
       have HB := hid (HB.out.trans (grown_below g (by omega) (by omega)))
       clear kPB2
       have kPB2 : v4.cell? ⟨w.heap.size, 2, none⟩ = some (.slice sa l.length sc) := (BoxAt.cell PB.out 2).trans rfl
       clear b g z hfl FL4)
    | fail)
  refine bodyPost_ret (results_cell_row rfl _ _ (v1.heap.size) 24 _ (0, 0) _ rfl RB.out Try.underlying24 rfl Try.infoBd) rfl ?_
  exact ⟨qv3, rfl, HM.out, HB.out⟩

set_option maxRecDepth 100000 in
set_option maxHeartbeats 1600000 in
theorem rbread_any (is : Bool) (v : Int) {s : Sl} {l : List Wt} (y : Wt) (may : Bool) {w : World} (hs : SeesWt w s.val l) (hl : l.length ≤ 800000) :
    Calls Try.prog 16 #[BdV.val ⟨is, v, s⟩, y.val, .bool may] w fun e w' => ∃ u : Sl, e = .returned (.tuple #[BdV.val ⟨is, v, u⟩, .int .i64 (readC is may), .int .i64 (readV is v)]) ∧ OWt w' w.heap.size u.val (readL is may l y) ∧ Below w.heap.size w w' := by
  have HV := hid hs
  obtain ⟨a, c, hsv, hc1, hc2, -⟩ := hs.form
  obtain ⟨sa, sn, sc⟩ := s
  simp only [Sl.val, Value.slice.injEq] at hsv
  obtain ⟨rfl, rfl, rfl⟩ := hsv
  unfold maxLen at hc2
  simp only [Sl.val] at HV
  clear hs
  unfold BdV.val Wt.val
  simp only
  have HB := hid (Below.refl w.heap.size w)
  go_enter Try.func16, Try.ntmps16
  have FL1 := hid trivial
  have FL2 := hid trivial
  have FL3 := hid trivial
  go_wp2_with (first
    | (have hfl := FL1.out
       refine wpList_box rfl 24 (.tmp 0) rfl #[.bool is, .int .i64 v, .slice sa l.length sc] rfl ?_
       intro v1 b h z
       have PB := hid (show BoxAt v1 w.heap.size 24 #[.bool is, .int .i64 v, .slice sa l.length sc] from b)
       have HB := hid (HB.out.trans (h.mono HB.out.size))
       have hsv1 : w.heap.size + 1 ≤ v1.heap.size := by first | exact h.size | omega
       clear b h z hfl FL1)
    | (have hfl := FL2.out
       refine wpList_box rfl 26 (.tmp 1) rfl #[.int .i64 y.p, .int .i64 y.r, .int .i64 y.v] rfl ?_
       intro v2 b h z
       have WB := hid (show BoxAt v2 v1.heap.size 26 #[.int .i64 y.p, .int .i64 y.r, .int .i64 y.v] from b)
       have PB := hid (PB.out.belowAll h)
       have HB := hid (HB.out.trans (h.mono HB.out.size))
       have hsv2 : v1.heap.size + 1 ≤ v2.heap.size := by first | exact h.size | omega
       clear b h z hfl FL2)
    | (have hfl := FL3.out
       refine wpList_new rfl 24 rfl _ Try.zeroBd ?_
       intro v3 b h z
       have RB := hid (show BoxAt v3 v2.heap.size 24 #[.bool false, .int .i64 0, .slice none 0 0] from b)
       have PB := hid (PB.out.belowAll h)
       have WB := hid (WB.out.belowAll h)
       have HB := hid (HB.out.trans (h.mono HB.out.size))
       have hsv3 : v2.heap.size + 1 ≤ v3.heap.size := by first | exact h.size | omega
       clear b h z hfl FL3)
    | fail)
  have PB := hid (BoxAt.drew PB.out)
  have WB := hid (BoxAt.drew WB.out)
  have RB := hid (BoxAt.drew RB.out)
  have HB := hid HB.out.drew
  have hsv4 : v3.heap.size ≤ v3.drew.heap.size := Nat.le_refl _
  refine wp_region_held_drew (S := (fun w' : World => BoxAt w' (w.heap.size) 24 #[.bool is, .int .i64 v, .slice sa l.length sc])) (by kernel_rfl) (PB.out) (fun hHeld => ?_)
  generalize v3.drew = v4 at *
  refine wpAnyH_take (i := 0) (oi := { dst := some 10, op := Op.fieldAddr 24 (Operand.tmp 3) 0, type := 0, pos := "ref.go:21", after := #[], guard := none }) (v := ?_) rfl (by kernel_rfl) (by kernel_rfl) (by kernel_rfl) (fun _ _ _ h => h) (Or.inl ⟨by rfl, ?_⟩) (by assumption) ?_
  rotate_left
  · (intro w hSw; (try dsimp only at hSw); go_simp; try with_reducible rfl)
  simp only [Act.put, List.setIfInBounds_toArray, List.set_cons_zero, List.set_cons_succ]
  refine wpAnyH_take (i := 1) (oi := { dst := some 11, op := Op.load 4 (Operand.tmp 10), type := 4, pos := "ref.go:21", after := #[{ on := 0, ground := Ground.data }], guard := none }) (v := ?_) rfl (by kernel_rfl) (by kernel_rfl) (by kernel_rfl) (fun _ _ _ h => h) (Or.inl ⟨by rfl, ?_⟩) (by assumption) ?_
  rotate_left
  · (intro W hSw; (try dsimp only at hSw); have x0 := hSw; have c0_0 : W.cell? ⟨w.heap.size, 0, none⟩ = some (.bool is) := (BoxAt.cell x0 0).trans rfl; have c0_1 : W.cell? ⟨w.heap.size, 1, none⟩ = some (.int .i64 v) := (BoxAt.cell x0 1).trans rfl; have c0_2 : W.cell? ⟨w.heap.size, 2, none⟩ = some (.slice sa l.length sc) := (BoxAt.cell x0 2).trans rfl; clear x0; go_simp; try with_reducible rfl)
  simp only [Act.put, List.setIfInBounds_toArray, List.set_cons_zero, List.set_cons_succ]
  refine wpAnyH_take (i := 2) (oi := { dst := some 12, op := Op.fieldAddr 24 (Operand.tmp 3) 1, type := 0, pos := "ref.go:21", after := #[], guard := none }) (v := ?_) rfl (by kernel_rfl) (by kernel_rfl) (by kernel_rfl) (fun _ _ _ h => h) (Or.inl ⟨by rfl, ?_⟩) (by assumption) ?_
  rotate_left
  · (intro w hSw; (try dsimp only at hSw); go_simp; try with_reducible rfl)
  simp only [Act.put, List.setIfInBounds_toArray, List.set_cons_zero, List.set_cons_succ]
  refine wpAnyH_take (i := 3) (oi := { dst := some 13, op := Op.load 3 (Operand.tmp 12), type := 3, pos := "ref.go:21", after := #[{ on := 2, ground := Ground.data }], guard := none }) (v := ?_) rfl (by kernel_rfl) (by kernel_rfl) (by kernel_rfl) (fun _ _ _ h => h) (Or.inl ⟨by rfl, ?_⟩) (by assumption) ?_
  rotate_left
  · (intro W hSw; (try dsimp only at hSw); have x0 := hSw; have c0_0 : W.cell? ⟨w.heap.size, 0, none⟩ = some (.bool is) := (BoxAt.cell x0 0).trans rfl; have c0_1 : W.cell? ⟨w.heap.size, 1, none⟩ = some (.int .i64 v) := (BoxAt.cell x0 1).trans rfl; have c0_2 : W.cell? ⟨w.heap.size, 2, none⟩ = some (.slice sa l.length sc) := (BoxAt.cell x0 2).trans rfl; clear x0; go_simp; try with_reducible rfl)
  simp only [Act.put, List.setIfInBounds_toArray, List.set_cons_zero, List.set_cons_succ]
  refine wpAnyH_take (i := 4) (oi := { dst := some 14, op := Op.fieldAddr 24 (Operand.tmp 3) 2, type := 0, pos := "ref.go:21", after := #[], guard := none }) (v := ?_) rfl (by kernel_rfl) (by kernel_rfl) (by kernel_rfl) (fun _ _ _ h => h) (Or.inl ⟨by rfl, ?_⟩) (by assumption) ?_
  rotate_left
  · (intro w hSw; (try dsimp only at hSw); go_simp; try with_reducible rfl)
  simp only [Act.put, List.setIfInBounds_toArray, List.set_cons_zero, List.set_cons_succ]
  refine wpAnyH_take (i := 5) (oi := { dst := some 15, op := Op.load 22 (Operand.tmp 14), type := 22, pos := "ref.go:21", after := #[{ on := 4, ground := Ground.data }], guard := none }) (v := ?_) rfl (by kernel_rfl) (by kernel_rfl) (by kernel_rfl) (fun _ _ _ h => h) (Or.inl ⟨by rfl, ?_⟩) (by assumption) ?_
  rotate_left
  · (intro W hSw; (try dsimp only at hSw); have x0 := hSw; have c0_0 : W.cell? ⟨w.heap.size, 0, none⟩ = some (.bool is) := (BoxAt.cell x0 0).trans rfl; have c0_1 : W.cell? ⟨w.heap.size, 1, none⟩ = some (.int .i64 v) := (BoxAt.cell x0 1).trans rfl; have c0_2 : W.cell? ⟨w.heap.size, 2, none⟩ = some (.slice sa l.length sc) := (BoxAt.cell x0 2).trans rfl; clear x0; go_simp; try with_reducible rfl)
  simp only [Act.put, List.setIfInBounds_toArray, List.set_cons_zero, List.set_cons_succ]
  refine wpAnyH_ready (rs := [6, 8]) (by kernel_rfl) (by simp) (AllReadyH.cons (o := { dst := some 16, op := Op.call { callee := Callee.builtin Builtin.append, args := #[Operand.const (Value.slice none 0 0), Operand.tmp 15], argTypes := #[22, 22] }, type := 22, pos := "ref.go:21", after := #[{ on := 5, ground := Ground.data }], guard := none }) rfl (fun K1007 hK1007 => ?b1007_6) (AllReadyH.cons (o := { dst := some 9, op := Op.alloc 24, type := 0, pos := "ref.go:21", after := #[], guard := none }) rfl (fun K1007 hK1007 => ?b1007_8) AllReadyH.nil))
  case' b1007_6 =>
    have HBt := HB.out.size
    refine step_app_nilWt rfl (.tmp 15) rfl _ l rfl (HV.out.below HB.out) (by omega) ?_
    intro uv5 v5 ho h
    obtain ⟨qv5, rfl, -⟩ := ho.sl
    have PB := hid (PB.out.belowAll h)
    have WB := hid (WB.out.belowAll h)
    have RB := hid (RB.out.belowAll h)
    have HB := hid (HB.out.trans (h.mono HB.out.size))
    have hsv5 : v4.heap.size ≤ v5.heap.size := by first | exact h.size | omega
    have HU := hid ho
    have kPB0 : v5.cell? ⟨w.heap.size, 0, none⟩ = some (.bool is) := (BoxAt.cell PB.out 0).trans rfl
    have kPB1 : v5.cell? ⟨w.heap.size, 1, none⟩ = some (.int .i64 v) := (BoxAt.cell PB.out 1).trans rfl
    have kPB2 : v5.cell? ⟨w.heap.size, 2, none⟩ = some (.slice sa l.length sc) := (BoxAt.cell PB.out 2).trans rfl
    clear ho h
    have HU := hid (HU.out.mono HBt)
    clear HBt
    refine hK1007.out _ _ (PB.out) (fun hHeld1007 => ?_)
    clear hK1007 K1007
    try simp only [Act.put, List.setIfInBounds_toArray, List.set_cons_zero, List.set_cons_succ]
    refine wpAnyH_take (i := 7) (oi := { dst := some 17, op := Op.build 24 #[(0, Operand.tmp 11), (1, Operand.tmp 13), (2, Operand.tmp 16)], type := 24, pos := "ref.go:21", after := #[{ on := 1, ground := Ground.data }, { on := 3, ground := Ground.data }, { on := 6, ground := Ground.data }], guard := none }) (v := ?_) rfl (by kernel_rfl) (by kernel_rfl) (by kernel_rfl) (fun _ _ _ h => h) (Or.inl ⟨by rfl, ?_⟩) (by assumption) ?_
    rotate_left
    · (intro w hSw; (try dsimp only at hSw); go_simp; try with_reducible rfl)
    simp only [Act.put, List.setIfInBounds_toArray, List.set_cons_zero, List.set_cons_succ]
    refine wpAnyH_ready (rs := [8]) (by kernel_rfl) (by simp) (AllReadyH.cons (o := { dst := some 9, op := Op.alloc 24, type := 0, pos := "ref.go:21", after := #[], guard := none }) rfl (fun K1009 hK1009 => ?_) AllReadyH.nil)
    refine step_new rfl 24 rfl _ Try.zeroBd ?_
    intro v6 b h z
    have MB := hid (show BoxAt v6 v5.heap.size 24 #[.bool false, .int .i64 0, .slice none 0 0] from b)
    have PB := hid (PB.out.belowAll h)
    have WB := hid (WB.out.belowAll h)
    have RB := hid (RB.out.belowAll h)
    have HU := hid (HU.out.below h)
    have HB := hid (HB.out.trans (h.mono HB.out.size))
    have hsv6 : v5.heap.size + 1 ≤ v6.heap.size := by first | exact h.size | omega
    clear kPB0 kPB1 kPB2
    have kPB0 : v6.cell? ⟨w.heap.size, 0, none⟩ = some (.bool is) := (BoxAt.cell PB.out 0).trans rfl
    have kPB1 : v6.cell? ⟨w.heap.size, 1, none⟩ = some (.int .i64 v) := (BoxAt.cell PB.out 1).trans rfl
    have kPB2 : v6.cell? ⟨w.heap.size, 2, none⟩ = some (.slice sa l.length sc) := (BoxAt.cell PB.out 2).trans rfl
    clear b h z
    refine hK1009.out _ _ (PB.out) (fun hHeld1009 => ?_)
    clear hK1009 K1009
    try simp only [Act.put, List.setIfInBounds_toArray, List.set_cons_zero, List.set_cons_succ]
    refine wpAnyH_ready (rs := [9]) (by kernel_rfl) (by simp) (AllReadyH.cons (o := { dst := none, op := Op.store 24 (Operand.tmp 9) (Operand.tmp 17), type := 0, pos := "ref.go:21", after := #[{ on := 8, ground := Ground.data }, { on := 7, ground := Ground.data }, { on := 6, ground := Ground.chain }, { on := 0, ground := Ground.phase }, { on := 1, ground := Ground.phase }, { on := 2, ground := Ground.phase }, { on := 3, ground := Ground.phase }, { on := 4, ground := Ground.phase }, { on := 5, ground := Ground.phase }, { on := 6, ground := Ground.phase }, { on := 7, ground := Ground.phase }, { on := 8, ground := Ground.phase }], guard := none }) rfl (fun K1010 hK1010 => ?_) AllReadyH.nil)
    refine step_store_whole rfl 24 _ _ rfl (v5.heap.size) rfl [.bool is, .int .i64 v, .slice qv5.a qv5.n qv5.c] rfl _ _ MB.out rfl Try.infoBd (by simp [Value.oneCell']) ?_
    intro v7 b g z
    have hsv7 : v6.heap.size ≤ v7.heap.size := by omega
    have HU := hid (HU.out.put g MB.out (by decide))
    have MB := hid (show BoxAt v7 (v5.heap.size) 24 #[.bool is, .int .i64 v, .slice qv5.a qv5.n qv5.c] from b)
    have PB := hid (PB.out.grown g (fun e => by have := Option.some.inj e; omega))
    have WB := hid (WB.out.grown g (fun e => by have := Option.some.inj e; omega))
    have RB := hid (RB.out.grown g (fun e => by have := Option.some.inj e; omega))
    have HB := hid (HB.out.trans (grown_below g (by omega) (by omega)))
    clear kPB0 kPB1 kPB2
    have kPB0 : v7.cell? ⟨w.heap.size, 0, none⟩ = some (.bool is) := (BoxAt.cell PB.out 0).trans rfl
    have kPB1 : v7.cell? ⟨w.heap.size, 1, none⟩ = some (.int .i64 v) := (BoxAt.cell PB.out 1).trans rfl
    have kPB2 : v7.cell? ⟨w.heap.size, 2, none⟩ = some (.slice sa l.length sc) := (BoxAt.cell PB.out 2).trans rfl
    clear b g z
    refine hK1010.out _ _ (PB.out) (fun hHeld1010 => ?_)
    clear hK1010 K1010
    try simp only [Act.put]
    refine wpAnyH_done (by kernel_rfl) ?_ _
    clear hHeld hHeld1007 hHeld1009 hHeld1010
    clear kPB0 kPB1 kPB2
    have kPB0 : v7.cell? ⟨w.heap.size, 0, none⟩ = some (.bool is) := (BoxAt.cell PB.out 0).trans rfl
    have kPB1 : v7.cell? ⟨w.heap.size, 1, none⟩ = some (.int .i64 v) := (BoxAt.cell PB.out 1).trans rfl
    have kPB2 : v7.cell? ⟨w.heap.size, 2, none⟩ = some (.slice sa l.length sc) := (BoxAt.cell PB.out 2).trans rfl
    rcases is with _ | _
    rotate_left
    · go_wp2_with fail
      clear kPB0 kPB1 kPB2
      have PB := hid (BoxAt.drew PB.out)
      have WB := hid (BoxAt.drew WB.out)
      have RB := hid (BoxAt.drew RB.out)
      have MB := hid (BoxAt.drew MB.out)
      have HU := hid (HU.out.below ((Below.refl v7.heap.size v7).drew))
      have HB := hid HB.out.drew
      have hsv8 : v7.heap.size ≤ v7.drew.heap.size := Nat.le_refl _
      refine wp_region_held_drew (S := (fun w' : World => BoxAt w' (v5.heap.size) 24 #[.bool true, .int .i64 v, .slice qv5.a qv5.n qv5.c] ∧ BoxAt w' (w.heap.size) 24 #[.bool true, .int .i64 v, .slice sa l.length sc])) (by kernel_rfl) (⟨MB.out, PB.out⟩) (fun hHeld => ?_)
      generalize v7.drew = v8 at *
      refine wpAnyH_take (i := 0) (oi := { dst := some 20, op := Op.load 24 (Operand.tmp 9), type := 24, pos := "ref.go:23", after := #[], guard := none }) (v := ?_) rfl (by kernel_rfl) (by kernel_rfl) (by kernel_rfl) (fun _ _ _ h => h) (Or.inl ⟨by rfl, ?_⟩) (by assumption) ?_
      rotate_left
      · (intro W hSw; (try dsimp only at hSw); obtain ⟨x0, x1⟩ := hSw; have c0_0 : W.cell? ⟨v5.heap.size, 0, none⟩ = some (.bool true) := (BoxAt.cell x0 0).trans rfl; have c0_1 : W.cell? ⟨v5.heap.size, 1, none⟩ = some (.int .i64 v) := (BoxAt.cell x0 1).trans rfl; have c0_2 : W.cell? ⟨v5.heap.size, 2, none⟩ = some (.slice qv5.a qv5.n qv5.c) := (BoxAt.cell x0 2).trans rfl; have c1_0 : W.cell? ⟨w.heap.size, 0, none⟩ = some (.bool true) := (BoxAt.cell x1 0).trans rfl; have c1_1 : W.cell? ⟨w.heap.size, 1, none⟩ = some (.int .i64 v) := (BoxAt.cell x1 1).trans rfl; have c1_2 : W.cell? ⟨w.heap.size, 2, none⟩ = some (.slice sa l.length sc) := (BoxAt.cell x1 2).trans rfl; clear x0 x1; go_simp; try with_reducible rfl)
      simp only [Act.put, List.setIfInBounds_toArray, List.set_cons_zero, List.set_cons_succ]
      refine wpAnyH_take (i := 1) (oi := { dst := some 21, op := Op.fieldAddr 24 (Operand.tmp 3) 1, type := 0, pos := "ref.go:23", after := #[{ on := 4, ground := Ground.gcOnly Departure.lateStores }], guard := none }) (v := ?_) rfl (by kernel_rfl) (by kernel_rfl) (by kernel_rfl) (fun _ _ _ h => h) (Or.inl ⟨by rfl, ?_⟩) (by assumption) ?_
      rotate_left
      · (intro w hSw; (try dsimp only at hSw); go_simp; try with_reducible rfl)
      simp only [Act.put, List.setIfInBounds_toArray, List.set_cons_zero, List.set_cons_succ]
      refine wpAnyH_take (i := 2) (oi := { dst := some 22, op := Op.load 3 (Operand.tmp 21), type := 3, pos := "ref.go:23", after := #[{ on := 1, ground := Ground.data }, { on := 4, ground := Ground.gcOnly Departure.lateStores }], guard := none }) (v := ?_) rfl (by kernel_rfl) (by kernel_rfl) (by kernel_rfl) (fun _ _ _ h => h) (Or.inl ⟨by rfl, ?_⟩) (by assumption) ?_
      rotate_left
      · (intro W hSw; (try dsimp only at hSw); obtain ⟨x0, x1⟩ := hSw; have c0_0 : W.cell? ⟨v5.heap.size, 0, none⟩ = some (.bool true) := (BoxAt.cell x0 0).trans rfl; have c0_1 : W.cell? ⟨v5.heap.size, 1, none⟩ = some (.int .i64 v) := (BoxAt.cell x0 1).trans rfl; have c0_2 : W.cell? ⟨v5.heap.size, 2, none⟩ = some (.slice qv5.a qv5.n qv5.c) := (BoxAt.cell x0 2).trans rfl; have c1_0 : W.cell? ⟨w.heap.size, 0, none⟩ = some (.bool true) := (BoxAt.cell x1 0).trans rfl; have c1_1 : W.cell? ⟨w.heap.size, 1, none⟩ = some (.int .i64 v) := (BoxAt.cell x1 1).trans rfl; have c1_2 : W.cell? ⟨w.heap.size, 2, none⟩ = some (.slice sa l.length sc) := (BoxAt.cell x1 2).trans rfl; clear x0 x1; go_simp; try with_reducible rfl)
      simp only [Act.put, List.setIfInBounds_toArray, List.set_cons_zero, List.set_cons_succ]
      refine wpAnyH_ready (rs := [3]) (by kernel_rfl) (by simp) (AllReadyH.cons (o := { dst := none, op := Op.store 24 (Operand.tmp 6) (Operand.tmp 20), type := 0, pos := "ref.go:23", after := #[{ on := 0, ground := Ground.data }, { on := 0, ground := Ground.phase }, { on := 1, ground := Ground.textOnly Departure.lateStores }, { on := 2, ground := Ground.textOnly Departure.lateStores }], guard := none }) rfl (fun K1004 hK1004 => ?_) AllReadyH.nil)
      refine step_store_whole rfl 24 _ _ rfl (v2.heap.size) rfl [.bool true, .int .i64 v, .slice qv5.a qv5.n qv5.c] rfl _ _ RB.out rfl Try.infoBd (by simp [Value.oneCell']) ?_
      intro v9 b g z
      have hsv9 : v8.heap.size ≤ v9.heap.size := by omega
      have HU := hid (HU.out.put g RB.out (by decide))
      have RB := hid (show BoxAt v9 (v2.heap.size) 24 #[.bool true, .int .i64 v, .slice qv5.a qv5.n qv5.c] from b)
      have PB := hid (PB.out.grown g (fun e => by have := Option.some.inj e; omega))
      have WB := hid (WB.out.grown g (fun e => by have := Option.some.inj e; omega))
      have MB := hid (MB.out.grown g (fun e => by have := Option.some.inj e; omega))
      have HB := hid (HB.out.trans (grown_below g (by omega) (by omega)))
      have kPB0 : v9.cell? ⟨w.heap.size, 0, none⟩ = some (.bool true) := (BoxAt.cell PB.out 0).trans rfl
      have kPB1 : v9.cell? ⟨w.heap.size, 1, none⟩ = some (.int .i64 v) := (BoxAt.cell PB.out 1).trans rfl
      have kPB2 : v9.cell? ⟨w.heap.size, 2, none⟩ = some (.slice sa l.length sc) := (BoxAt.cell PB.out 2).trans rfl
      clear b g z
      refine hK1004.out _ _ (⟨MB.out, PB.out⟩) (fun hHeld1004 => ?_)
      clear hK1004 K1004
      try simp only [Act.put]
      refine wpAnyH_take (i := 4) (oi := { dst := some 7, op := Op.assign (Operand.const (Value.int IntKind.i64 0)), type := 3, pos := "ref.go:23", after := #[{ on := 3, ground := Ground.chain }, { on := 0, ground := Ground.phase }, { on := 1, ground := Ground.textOnly Departure.lateStores }, { on := 2, ground := Ground.textOnly Departure.lateStores }, { on := 3, ground := Ground.phase }], guard := none }) (v := ?_) rfl (by kernel_rfl) (by kernel_rfl) (by kernel_rfl) (fun _ _ _ h => h) (Or.inl ⟨by rfl, ?_⟩) (by assumption) ?_
      rotate_left
      · (intro w hSw; (try dsimp only at hSw); go_simp; try with_reducible rfl)
      simp only [Act.put, List.setIfInBounds_toArray, List.set_cons_zero, List.set_cons_succ]
      refine wpAnyH_take (i := 5) (oi := { dst := some 8, op := Op.assign (Operand.tmp 22), type := 3, pos := "ref.go:23", after := #[{ on := 2, ground := Ground.data }, { on := 4, ground := Ground.chain }, { on := 0, ground := Ground.phase }, { on := 1, ground := Ground.phase }, { on := 2, ground := Ground.phase }, { on := 3, ground := Ground.phase }, { on := 4, ground := Ground.phase }], guard := none }) (v := ?_) rfl (by kernel_rfl) (by kernel_rfl) (by kernel_rfl) (fun _ _ _ h => h) (Or.inl ⟨by rfl, ?_⟩) (by assumption) ?_
      rotate_left
      · (intro w hSw; (try dsimp only at hSw); go_simp; try with_reducible rfl)
      simp only [Act.put, List.setIfInBounds_toArray, List.set_cons_zero, List.set_cons_succ]
      refine wpAnyH_done (by kernel_rfl) ?_ _
      clear hHeld hHeld1004
      clear kPB0 kPB1 kPB2
      have kPB0 : v9.cell? ⟨w.heap.size, 0, none⟩ = some (.bool true) := (BoxAt.cell PB.out 0).trans rfl
      have kPB1 : v9.cell? ⟨w.heap.size, 1, none⟩ = some (.int .i64 v) := (BoxAt.cell PB.out 1).trans rfl
      have kPB2 : v9.cell? ⟨w.heap.size, 2, none⟩ = some (.slice sa l.length sc) := (BoxAt.cell PB.out 2).trans rfl
      go_wp2_with fail
      refine bodyPost_ret (results_box_tmp2 rfl _ _ (v2.heap.size) 24 _ (0, 0) _ rfl RB.out Try.underlying24 rfl Try.infoBd) rfl ?_
      exact ⟨qv5, rfl, HU.out, HB.out⟩
    rcases may with _ | _
    · have FL4 := hid trivial
      go_wp2_with (first
        | (refine wpList_load_box rfl 24 _ rfl (v5.heap.size) rfl _ _ MB.out _ Try.underlying24 Try.infoBd ?_)
        | (have hfl := FL4.out
           refine wpList_store_whole rfl 24 _ _ rfl rfl (v2.heap.size) rfl [.bool false, .int .i64 v, .slice qv5.a qv5.n qv5.c] rfl _ _ RB.out rfl Try.infoBd (by simp [Value.oneCell']) ?_
           intro v8 b g z
           have hsv8 : v7.heap.size ≤ v8.heap.size := by omega
           have HU := hid (HU.out.put g RB.out (by decide))
           have RB := hid (show BoxAt v8 (v2.heap.size) 24 #[.bool false, .int .i64 v, .slice qv5.a qv5.n qv5.c] from b)
           have PB := hid (PB.out.grown g (fun e => by have := Option.some.inj e; omega))
           have WB := hid (WB.out.grown g (fun e => by have := Option.some.inj e; omega))
           have MB := hid (MB.out.grown g (fun e => by have := Option.some.inj e; omega))
           have HB := hid (HB.out.trans (grown_below g (by omega) (by omega)))
           clear kPB0 kPB1 kPB2
           have kPB0 : v8.cell? ⟨w.heap.size, 0, none⟩ = some (.bool false) := (BoxAt.cell PB.out 0).trans rfl
           have kPB1 : v8.cell? ⟨w.heap.size, 1, none⟩ = some (.int .i64 v) := (BoxAt.cell PB.out 1).trans rfl
           have kPB2 : v8.cell? ⟨w.heap.size, 2, none⟩ = some (.slice sa l.length sc) := (BoxAt.cell PB.out 2).trans rfl
           clear b g z hfl FL4)
        | fail)
      refine bodyPost_ret (results_box_tmp2 rfl _ _ (v2.heap.size) 24 _ (0, 0) _ rfl RB.out Try.underlying24 rfl Try.infoBd) rfl ?_
      exact ⟨qv5, rfl, HU.out, HB.out⟩
    · go_wp2_with (first
        | (refine wpList_load_box rfl 26 _ rfl (v1.heap.size) rfl _ _ WB.out _ Try.underlying26 Try.infoWt ?_)
        | fail)
      have HBt := HB.out.size
      refine (radd_any y false (HV.out.below HB.out) hl).mono ?_
      rintro e v8 ⟨q, rfl, hq, hb⟩
      have PB := hid (PB.out.belowAll hb)
      have WB := hid (WB.out.belowAll hb)
      have RB := hid (RB.out.belowAll hb)
      have MB := hid (MB.out.belowAll hb)
      have HU := hid (HU.out.below hb)
      have HB := hid (HB.out.trans (hb.mono HB.out.size))
      have hsv8 : v7.heap.size ≤ v8.heap.size := by first | exact hb.size | omega
      have HQ := hid (hq.mono HBt)
      obtain ⟨q, rfl, -⟩ := hq.sl
      clear hq
      clear kPB0 kPB1 kPB2
      have kPB0 : v8.cell? ⟨w.heap.size, 0, none⟩ = some (.bool false) := (BoxAt.cell PB.out 0).trans rfl
      have kPB1 : v8.cell? ⟨w.heap.size, 1, none⟩ = some (.int .i64 v) := (BoxAt.cell PB.out 1).trans rfl
      have kPB2 : v8.cell? ⟨w.heap.size, 2, none⟩ = some (.slice sa l.length sc) := (BoxAt.cell PB.out 2).trans rfl
      clear hb
      have FL4 := hid trivial
      have FL5 := hid trivial
      go_wp2_with (first
        | (have hfl := FL4.out
           refine wpList_store_box rfl 22 _ _ rfl rfl (v5.heap.size) 2 (.slice q.a q.n q.c) rfl rfl rfl rfl (by kernel_rfl) _ _ MB.out (by simp) ?_
           intro v9 b g z
           have hsv9 : v8.heap.size ≤ v9.heap.size := by omega
           have HU := hid (HU.out.put g MB.out (by decide))
           have HQ := hid (HQ.out.put g MB.out (by decide))
           have MB := hid (show BoxAt v9 (v5.heap.size) 24 #[.bool false, .int .i64 v, .slice q.a q.n q.c] from by simpa using b)
           have PB := hid (PB.out.grown g (fun e => by have := Option.some.inj e; omega))
           have WB := hid (WB.out.grown g (fun e => by have := Option.some.inj e; omega))
           have RB := hid (RB.out.grown g (fun e => by have := Option.some.inj e; omega))
           have HB := hid (HB.out.trans (grown_below g (by omega) (by omega)))
           clear kPB0 kPB1 kPB2
           have kPB0 : v9.cell? ⟨w.heap.size, 0, none⟩ = some (.bool false) := (BoxAt.cell PB.out 0).trans rfl
           have kPB1 : v9.cell? ⟨w.heap.size, 1, none⟩ = some (.int .i64 v) := (BoxAt.cell PB.out 1).trans rfl
           have kPB2 : v9.cell? ⟨w.heap.size, 2, none⟩ = some (.slice sa l.length sc) := (BoxAt.cell PB.out 2).trans rfl
           clear b g z hfl FL4)
        | (refine wpList_load_box rfl 24 _ rfl (v5.heap.size) rfl _ _ MB.out _ Try.underlying24 Try.infoBd ?_)
        | (have hfl := FL5.out
           refine wpList_store_whole rfl 24 _ _ rfl rfl (v2.heap.size) rfl [.bool false, .int .i64 v, .slice q.a q.n q.c] rfl _ _ RB.out rfl Try.infoBd (by simp [Value.oneCell']) ?_
           intro v10 b g z
           have hsv10 : v9.heap.size ≤ v10.heap.size := by omega
           have HU := hid (HU.out.put g RB.out (by decide))
           have HQ := hid (HQ.out.put g RB.out (by decide))
           have RB := hid (show BoxAt v10 (v2.heap.size) 24 #[.bool false, .int .i64 v, .slice q.a q.n q.c] from b)
           have PB := hid (PB.out.grown g (fun e => by have := Option.some.inj e; omega))
           have WB := hid (WB.out.grown g (fun e => by have := Option.some.inj e; omega))
           have MB := hid (MB.out.grown g (fun e => by have := Option.some.inj e; omega))
           have HB := hid (HB.out.trans (grown_below g (by omega) (by omega)))
           clear kPB0 kPB1 kPB2
           have kPB0 : v10.cell? ⟨w.heap.size, 0, none⟩ = some (.bool false) := (BoxAt.cell PB.out 0).trans rfl
           have kPB1 : v10.cell? ⟨w.heap.size, 1, none⟩ = some (.int .i64 v) := (BoxAt.cell PB.out 1).trans rfl
           have kPB2 : v10.cell? ⟨w.heap.size, 2, none⟩ = some (.slice sa l.length sc) := (BoxAt.cell PB.out 2).trans rfl
           clear b g z hfl FL5)
        | fail)
      refine bodyPost_ret (results_box_tmp2 rfl _ _ (v2.heap.size) 24 _ (0, 0) _ rfl RB.out Try.underlying24 rfl Try.infoBd) rfl ?_
      exact ⟨q, rfl, HQ.out, HB.out⟩
  case' b1007_8 =>
    refine step_new rfl 24 rfl _ Try.zeroBd ?_
    intro v5 b h z
    have MB := hid (show BoxAt v5 v4.heap.size 24 #[.bool false, .int .i64 0, .slice none 0 0] from b)
    have PB := hid (PB.out.belowAll h)
    have WB := hid (WB.out.belowAll h)
    have RB := hid (RB.out.belowAll h)
    have HB := hid (HB.out.trans (h.mono HB.out.size))
    have hsv5 : v4.heap.size + 1 ≤ v5.heap.size := by first | exact h.size | omega
    have kPB0 : v5.cell? ⟨w.heap.size, 0, none⟩ = some (.bool is) := (BoxAt.cell PB.out 0).trans rfl
    have kPB1 : v5.cell? ⟨w.heap.size, 1, none⟩ = some (.int .i64 v) := (BoxAt.cell PB.out 1).trans rfl
    have kPB2 : v5.cell? ⟨w.heap.size, 2, none⟩ = some (.slice sa l.length sc) := (BoxAt.cell PB.out 2).trans rfl
    clear b h z
    refine hK1007.out _ _ (PB.out) (fun hHeld1007 => ?_)
    clear hK1007 K1007
    try simp only [Act.put, List.setIfInBounds_toArray, List.set_cons_zero, List.set_cons_succ]
    refine wpAnyH_ready (rs := [6]) (by kernel_rfl) (by simp) (AllReadyH.cons (o := { dst := some 16, op := Op.call { callee := Callee.builtin Builtin.append, args := #[Operand.const (Value.slice none 0 0), Operand.tmp 15], argTypes := #[22, 22] }, type := 22, pos := "ref.go:21", after := #[{ on := 5, ground := Ground.data }], guard := none }) rfl (fun K1011 hK1011 => ?_) AllReadyH.nil)
    have HBt := HB.out.size
    refine step_app_nilWt rfl (.tmp 15) rfl _ l rfl (HV.out.below HB.out) (by omega) ?_
    intro uv6 v6 ho h
    obtain ⟨qv6, rfl, -⟩ := ho.sl
    have PB := hid (PB.out.belowAll h)
    have WB := hid (WB.out.belowAll h)
    have RB := hid (RB.out.belowAll h)
    have MB := hid (MB.out.belowAll h)
    have HB := hid (HB.out.trans (h.mono HB.out.size))
    have hsv6 : v5.heap.size ≤ v6.heap.size := by first | exact h.size | omega
    have HU := hid ho
    clear kPB0 kPB1 kPB2
    have kPB0 : v6.cell? ⟨w.heap.size, 0, none⟩ = some (.bool is) := (BoxAt.cell PB.out 0).trans rfl
    have kPB1 : v6.cell? ⟨w.heap.size, 1, none⟩ = some (.int .i64 v) := (BoxAt.cell PB.out 1).trans rfl
    have kPB2 : v6.cell? ⟨w.heap.size, 2, none⟩ = some (.slice sa l.length sc) := (BoxAt.cell PB.out 2).trans rfl
    clear ho h
    have HU := hid (HU.out.mono HBt)
    clear HBt
    refine hK1011.out _ _ (PB.out) (fun hHeld1011 => ?_)
    clear hK1011 K1011
    try simp only [Act.put, List.setIfInBounds_toArray, List.set_cons_zero, List.set_cons_succ]
    refine wpAnyH_take (i := 7) (oi := { dst := some 17, op := Op.build 24 #[(0, Operand.tmp 11), (1, Operand.tmp 13), (2, Operand.tmp 16)], type := 24, pos := "ref.go:21", after := #[{ on := 1, ground := Ground.data }, { on := 3, ground := Ground.data }, { on := 6, ground := Ground.data }], guard := none }) (v := ?_) rfl (by kernel_rfl) (by kernel_rfl) (by kernel_rfl) (fun _ _ _ h => h) (Or.inl ⟨by rfl, ?_⟩) (by assumption) ?_
    rotate_left
    · (intro w hSw; (try dsimp only at hSw); go_simp; try with_reducible rfl)
    simp only [Act.put, List.setIfInBounds_toArray, List.set_cons_zero, List.set_cons_succ]
    refine wpAnyH_ready (rs := [9]) (by kernel_rfl) (by simp) (AllReadyH.cons (o := { dst := none, op := Op.store 24 (Operand.tmp 9) (Operand.tmp 17), type := 0, pos := "ref.go:21", after := #[{ on := 8, ground := Ground.data }, { on := 7, ground := Ground.data }, { on := 6, ground := Ground.chain }, { on := 0, ground := Ground.phase }, { on := 1, ground := Ground.phase }, { on := 2, ground := Ground.phase }, { on := 3, ground := Ground.phase }, { on := 4, ground := Ground.phase }, { on := 5, ground := Ground.phase }, { on := 6, ground := Ground.phase }, { on := 7, ground := Ground.phase }, { on := 8, ground := Ground.phase }], guard := none }) rfl (fun K1013 hK1013 => ?_) AllReadyH.nil)
    refine step_store_whole rfl 24 _ _ rfl (v4.heap.size) rfl [.bool is, .int .i64 v, .slice qv6.a qv6.n qv6.c] rfl _ _ MB.out rfl Try.infoBd (by simp [Value.oneCell']) ?_
    intro v7 b g z
    have hsv7 : v6.heap.size ≤ v7.heap.size := by omega
    have HU := hid (HU.out.put g MB.out (by decide))
    have MB := hid (show BoxAt v7 (v4.heap.size) 24 #[.bool is, .int .i64 v, .slice qv6.a qv6.n qv6.c] from b)
    have PB := hid (PB.out.grown g (fun e => by have := Option.some.inj e; omega))
    have WB := hid (WB.out.grown g (fun e => by have := Option.some.inj e; omega))
    have RB := hid (RB.out.grown g (fun e => by have := Option.some.inj e; omega))
    have HB := hid (HB.out.trans (grown_below g (by omega) (by omega)))
    clear kPB0 kPB1 kPB2
    have kPB0 : v7.cell? ⟨w.heap.size, 0, none⟩ = some (.bool is) := (BoxAt.cell PB.out 0).trans rfl
    have kPB1 : v7.cell? ⟨w.heap.size, 1, none⟩ = some (.int .i64 v) := (BoxAt.cell PB.out 1).trans rfl
    have kPB2 : v7.cell? ⟨w.heap.size, 2, none⟩ = some (.slice sa l.length sc) := (BoxAt.cell PB.out 2).trans rfl
    clear b g z
    refine hK1013.out _ _ (PB.out) (fun hHeld1013 => ?_)
    clear hK1013 K1013
    try simp only [Act.put]
    refine wpAnyH_done (by kernel_rfl) ?_ _
    clear hHeld hHeld1007 hHeld1011 hHeld1013
    clear kPB0 kPB1 kPB2
    have kPB0 : v7.cell? ⟨w.heap.size, 0, none⟩ = some (.bool is) := (BoxAt.cell PB.out 0).trans rfl
    have kPB1 : v7.cell? ⟨w.heap.size, 1, none⟩ = some (.int .i64 v) := (BoxAt.cell PB.out 1).trans rfl
    have kPB2 : v7.cell? ⟨w.heap.size, 2, none⟩ = some (.slice sa l.length sc) := (BoxAt.cell PB.out 2).trans rfl
    rcases is with _ | _
    rotate_left
    · go_wp2_with fail
      clear kPB0 kPB1 kPB2
      have PB := hid (BoxAt.drew PB.out)
      have WB := hid (BoxAt.drew WB.out)
      have RB := hid (BoxAt.drew RB.out)
      have MB := hid (BoxAt.drew MB.out)
      have HU := hid (HU.out.below ((Below.refl v7.heap.size v7).drew))
      have HB := hid HB.out.drew
      have hsv8 : v7.heap.size ≤ v7.drew.heap.size := Nat.le_refl _
      refine wp_region_held_drew (S := (fun w' : World => BoxAt w' (v4.heap.size) 24 #[.bool true, .int .i64 v, .slice qv6.a qv6.n qv6.c] ∧ BoxAt w' (w.heap.size) 24 #[.bool true, .int .i64 v, .slice sa l.length sc])) (by kernel_rfl) (⟨MB.out, PB.out⟩) (fun hHeld => ?_)
      generalize v7.drew = v8 at *
      refine wpAnyH_take (i := 0) (oi := { dst := some 20, op := Op.load 24 (Operand.tmp 9), type := 24, pos := "ref.go:23", after := #[], guard := none }) (v := ?_) rfl (by kernel_rfl) (by kernel_rfl) (by kernel_rfl) (fun _ _ _ h => h) (Or.inl ⟨by rfl, ?_⟩) (by assumption) ?_
      rotate_left
      · (intro W hSw; (try dsimp only at hSw); obtain ⟨x0, x1⟩ := hSw; have c0_0 : W.cell? ⟨v4.heap.size, 0, none⟩ = some (.bool true) := (BoxAt.cell x0 0).trans rfl; have c0_1 : W.cell? ⟨v4.heap.size, 1, none⟩ = some (.int .i64 v) := (BoxAt.cell x0 1).trans rfl; have c0_2 : W.cell? ⟨v4.heap.size, 2, none⟩ = some (.slice qv6.a qv6.n qv6.c) := (BoxAt.cell x0 2).trans rfl; have c1_0 : W.cell? ⟨w.heap.size, 0, none⟩ = some (.bool true) := (BoxAt.cell x1 0).trans rfl; have c1_1 : W.cell? ⟨w.heap.size, 1, none⟩ = some (.int .i64 v) := (BoxAt.cell x1 1).trans rfl; have c1_2 : W.cell? ⟨w.heap.size, 2, none⟩ = some (.slice sa l.length sc) := (BoxAt.cell x1 2).trans rfl; clear x0 x1; go_simp; try with_reducible rfl)
      simp only [Act.put, List.setIfInBounds_toArray, List.set_cons_zero, List.set_cons_succ]
      refine wpAnyH_take (i := 1) (oi := { dst := some 21, op := Op.fieldAddr 24 (Operand.tmp 3) 1, type := 0, pos := "ref.go:23", after := #[{ on := 4, ground := Ground.gcOnly Departure.lateStores }], guard := none }) (v := ?_) rfl (by kernel_rfl) (by kernel_rfl) (by kernel_rfl) (fun _ _ _ h => h) (Or.inl ⟨by rfl, ?_⟩) (by assumption) ?_
      rotate_left
      · (intro w hSw; (try dsimp only at hSw); go_simp; try with_reducible rfl)
      simp only [Act.put, List.setIfInBounds_toArray, List.set_cons_zero, List.set_cons_succ]
      refine wpAnyH_take (i := 2) (oi := { dst := some 22, op := Op.load 3 (Operand.tmp 21), type := 3, pos := "ref.go:23", after := #[{ on := 1, ground := Ground.data }, { on := 4, ground := Ground.gcOnly Departure.lateStores }], guard := none }) (v := ?_) rfl (by kernel_rfl) (by kernel_rfl) (by kernel_rfl) (fun _ _ _ h => h) (Or.inl ⟨by rfl, ?_⟩) (by assumption) ?_
      rotate_left
      · (intro W hSw; (try dsimp only at hSw); obtain ⟨x0, x1⟩ := hSw; have c0_0 : W.cell? ⟨v4.heap.size, 0, none⟩ = some (.bool true) := (BoxAt.cell x0 0).trans rfl; have c0_1 : W.cell? ⟨v4.heap.size, 1, none⟩ = some (.int .i64 v) := (BoxAt.cell x0 1).trans rfl; have c0_2 : W.cell? ⟨v4.heap.size, 2, none⟩ = some (.slice qv6.a qv6.n qv6.c) := (BoxAt.cell x0 2).trans rfl; have c1_0 : W.cell? ⟨w.heap.size, 0, none⟩ = some (.bool true) := (BoxAt.cell x1 0).trans rfl; have c1_1 : W.cell? ⟨w.heap.size, 1, none⟩ = some (.int .i64 v) := (BoxAt.cell x1 1).trans rfl; have c1_2 : W.cell? ⟨w.heap.size, 2, none⟩ = some (.slice sa l.length sc) := (BoxAt.cell x1 2).trans rfl; clear x0 x1; go_simp; try with_reducible rfl)
      simp only [Act.put, List.setIfInBounds_toArray, List.set_cons_zero, List.set_cons_succ]
      refine wpAnyH_ready (rs := [3]) (by kernel_rfl) (by simp) (AllReadyH.cons (o := { dst := none, op := Op.store 24 (Operand.tmp 6) (Operand.tmp 20), type := 0, pos := "ref.go:23", after := #[{ on := 0, ground := Ground.data }, { on := 0, ground := Ground.phase }, { on := 1, ground := Ground.textOnly Departure.lateStores }, { on := 2, ground := Ground.textOnly Departure.lateStores }], guard := none }) rfl (fun K2004 hK2004 => ?_) AllReadyH.nil)
      refine step_store_whole rfl 24 _ _ rfl (v2.heap.size) rfl [.bool true, .int .i64 v, .slice qv6.a qv6.n qv6.c] rfl _ _ RB.out rfl Try.infoBd (by simp [Value.oneCell']) ?_
      intro v9 b g z
      have hsv9 : v8.heap.size ≤ v9.heap.size := by omega
      have HU := hid (HU.out.put g RB.out (by decide))
      have RB := hid (show BoxAt v9 (v2.heap.size) 24 #[.bool true, .int .i64 v, .slice qv6.a qv6.n qv6.c] from b)
      have PB := hid (PB.out.grown g (fun e => by have := Option.some.inj e; omega))
      have WB := hid (WB.out.grown g (fun e => by have := Option.some.inj e; omega))
      have MB := hid (MB.out.grown g (fun e => by have := Option.some.inj e; omega))
      have HB := hid (HB.out.trans (grown_below g (by omega) (by omega)))
      have kPB0 : v9.cell? ⟨w.heap.size, 0, none⟩ = some (.bool true) := (BoxAt.cell PB.out 0).trans rfl
      have kPB1 : v9.cell? ⟨w.heap.size, 1, none⟩ = some (.int .i64 v) := (BoxAt.cell PB.out 1).trans rfl
      have kPB2 : v9.cell? ⟨w.heap.size, 2, none⟩ = some (.slice sa l.length sc) := (BoxAt.cell PB.out 2).trans rfl
      clear b g z
      refine hK2004.out _ _ (⟨MB.out, PB.out⟩) (fun hHeld2004 => ?_)
      clear hK2004 K2004
      try simp only [Act.put]
      refine wpAnyH_take (i := 4) (oi := { dst := some 7, op := Op.assign (Operand.const (Value.int IntKind.i64 0)), type := 3, pos := "ref.go:23", after := #[{ on := 3, ground := Ground.chain }, { on := 0, ground := Ground.phase }, { on := 1, ground := Ground.textOnly Departure.lateStores }, { on := 2, ground := Ground.textOnly Departure.lateStores }, { on := 3, ground := Ground.phase }], guard := none }) (v := ?_) rfl (by kernel_rfl) (by kernel_rfl) (by kernel_rfl) (fun _ _ _ h => h) (Or.inl ⟨by rfl, ?_⟩) (by assumption) ?_
      rotate_left
      · (intro w hSw; (try dsimp only at hSw); go_simp; try with_reducible rfl)
      simp only [Act.put, List.setIfInBounds_toArray, List.set_cons_zero, List.set_cons_succ]
      refine wpAnyH_take (i := 5) (oi := { dst := some 8, op := Op.assign (Operand.tmp 22), type := 3, pos := "ref.go:23", after := #[{ on := 2, ground := Ground.data }, { on := 4, ground := Ground.chain }, { on := 0, ground := Ground.phase }, { on := 1, ground := Ground.phase }, { on := 2, ground := Ground.phase }, { on := 3, ground := Ground.phase }, { on := 4, ground := Ground.phase }], guard := none }) (v := ?_) rfl (by kernel_rfl) (by kernel_rfl) (by kernel_rfl) (fun _ _ _ h => h) (Or.inl ⟨by rfl, ?_⟩) (by assumption) ?_
      rotate_left
      · (intro w hSw; (try dsimp only at hSw); go_simp; try with_reducible rfl)
      simp only [Act.put, List.setIfInBounds_toArray, List.set_cons_zero, List.set_cons_succ]
      refine wpAnyH_done (by kernel_rfl) ?_ _
      clear hHeld hHeld2004
      clear kPB0 kPB1 kPB2
      have kPB0 : v9.cell? ⟨w.heap.size, 0, none⟩ = some (.bool true) := (BoxAt.cell PB.out 0).trans rfl
      have kPB1 : v9.cell? ⟨w.heap.size, 1, none⟩ = some (.int .i64 v) := (BoxAt.cell PB.out 1).trans rfl
      have kPB2 : v9.cell? ⟨w.heap.size, 2, none⟩ = some (.slice sa l.length sc) := (BoxAt.cell PB.out 2).trans rfl
      go_wp2_with fail
      refine bodyPost_ret (results_box_tmp2 rfl _ _ (v2.heap.size) 24 _ (0, 0) _ rfl RB.out Try.underlying24 rfl Try.infoBd) rfl ?_
      exact ⟨qv6, rfl, HU.out, HB.out⟩
    rcases may with _ | _
    · have FL4 := hid trivial
      go_wp2_with (first
        | (refine wpList_load_box rfl 24 _ rfl (v4.heap.size) rfl _ _ MB.out _ Try.underlying24 Try.infoBd ?_)
        | (have hfl := FL4.out
           refine wpList_store_whole rfl 24 _ _ rfl rfl (v2.heap.size) rfl [.bool false, .int .i64 v, .slice qv6.a qv6.n qv6.c] rfl _ _ RB.out rfl Try.infoBd (by simp [Value.oneCell']) ?_
           intro v8 b g z
           have hsv8 : v7.heap.size ≤ v8.heap.size := by omega
           have HU := hid (HU.out.put g RB.out (by decide))
           have RB := hid (show BoxAt v8 (v2.heap.size) 24 #[.bool false, .int .i64 v, .slice qv6.a qv6.n qv6.c] from b)
           have PB := hid (PB.out.grown g (fun e => by have := Option.some.inj e; omega))
           have WB := hid (WB.out.grown g (fun e => by have := Option.some.inj e; omega))
           have MB := hid (MB.out.grown g (fun e => by have := Option.some.inj e; omega))
           have HB := hid (HB.out.trans (grown_below g (by omega) (by omega)))
           clear kPB0 kPB1 kPB2
           have kPB0 : v8.cell? ⟨w.heap.size, 0, none⟩ = some (.bool false) := (BoxAt.cell PB.out 0).trans rfl
           have kPB1 : v8.cell? ⟨w.heap.size, 1, none⟩ = some (.int .i64 v) := (BoxAt.cell PB.out 1).trans rfl
           have kPB2 : v8.cell? ⟨w.heap.size, 2, none⟩ = some (.slice sa l.length sc) := (BoxAt.cell PB.out 2).trans rfl
           clear b g z hfl FL4)
        | fail)
      refine bodyPost_ret (results_box_tmp2 rfl _ _ (v2.heap.size) 24 _ (0, 0) _ rfl RB.out Try.underlying24 rfl Try.infoBd) rfl ?_
      exact ⟨qv6, rfl, HU.out, HB.out⟩
    · go_wp2_with (first
        | (refine wpList_load_box rfl 26 _ rfl (v1.heap.size) rfl _ _ WB.out _ Try.underlying26 Try.infoWt ?_)
        | fail)
      have HBt := HB.out.size
      refine (radd_any y false (HV.out.below HB.out) hl).mono ?_
      rintro e v8 ⟨q, rfl, hq, hb⟩
      have PB := hid (PB.out.belowAll hb)
      have WB := hid (WB.out.belowAll hb)
      have RB := hid (RB.out.belowAll hb)
      have MB := hid (MB.out.belowAll hb)
      have HU := hid (HU.out.below hb)
      have HB := hid (HB.out.trans (hb.mono HB.out.size))
      have hsv8 : v7.heap.size ≤ v8.heap.size := by first | exact hb.size | omega
      have HQ := hid (hq.mono HBt)
      obtain ⟨q, rfl, -⟩ := hq.sl
      clear hq
      clear kPB0 kPB1 kPB2
      have kPB0 : v8.cell? ⟨w.heap.size, 0, none⟩ = some (.bool false) := (BoxAt.cell PB.out 0).trans rfl
      have kPB1 : v8.cell? ⟨w.heap.size, 1, none⟩ = some (.int .i64 v) := (BoxAt.cell PB.out 1).trans rfl
      have kPB2 : v8.cell? ⟨w.heap.size, 2, none⟩ = some (.slice sa l.length sc) := (BoxAt.cell PB.out 2).trans rfl
      clear hb
      have FL4 := hid trivial
      have FL5 := hid trivial
      go_wp2_with (first
        | (have hfl := FL4.out
           refine wpList_store_box rfl 22 _ _ rfl rfl (v4.heap.size) 2 (.slice q.a q.n q.c) rfl rfl rfl rfl (by kernel_rfl) _ _ MB.out (by simp) ?_
           intro v9 b g z
           have hsv9 : v8.heap.size ≤ v9.heap.size := by omega
           have HU := hid (HU.out.put g MB.out (by decide))
           have HQ := hid (HQ.out.put g MB.out (by decide))
           have MB := hid (show BoxAt v9 (v4.heap.size) 24 #[.bool false, .int .i64 v, .slice q.a q.n q.c] from by simpa using b)
           have PB := hid (PB.out.grown g (fun e => by have := Option.some.inj e; omega))
           have WB := hid (WB.out.grown g (fun e => by have := Option.some.inj e; omega))
           have RB := hid (RB.out.grown g (fun e => by have := Option.some.inj e; omega))
           have HB := hid (HB.out.trans (grown_below g (by omega) (by omega)))
           clear kPB0 kPB1 kPB2
           have kPB0 : v9.cell? ⟨w.heap.size, 0, none⟩ = some (.bool false) := (BoxAt.cell PB.out 0).trans rfl
           have kPB1 : v9.cell? ⟨w.heap.size, 1, none⟩ = some (.int .i64 v) := (BoxAt.cell PB.out 1).trans rfl
           have kPB2 : v9.cell? ⟨w.heap.size, 2, none⟩ = some (.slice sa l.length sc) := (BoxAt.cell PB.out 2).trans rfl
           clear b g z hfl FL4)
        | (refine wpList_load_box rfl 24 _ rfl (v4.heap.size) rfl _ _ MB.out _ Try.underlying24 Try.infoBd ?_)
        | (have hfl := FL5.out
           refine wpList_store_whole rfl 24 _ _ rfl rfl (v2.heap.size) rfl [.bool false, .int .i64 v, .slice q.a q.n q.c] rfl _ _ RB.out rfl Try.infoBd (by simp [Value.oneCell']) ?_
           intro v10 b g z
           have hsv10 : v9.heap.size ≤ v10.heap.size := by omega
           have HU := hid (HU.out.put g RB.out (by decide))
           have HQ := hid (HQ.out.put g RB.out (by decide))
           have RB := hid (show BoxAt v10 (v2.heap.size) 24 #[.bool false, .int .i64 v, .slice q.a q.n q.c] from b)
           have PB := hid (PB.out.grown g (fun e => by have := Option.some.inj e; omega))
           have WB := hid (WB.out.grown g (fun e => by have := Option.some.inj e; omega))
           have MB := hid (MB.out.grown g (fun e => by have := Option.some.inj e; omega))
           have HB := hid (HB.out.trans (grown_below g (by omega) (by omega)))
           clear kPB0 kPB1 kPB2
           have kPB0 : v10.cell? ⟨w.heap.size, 0, none⟩ = some (.bool false) := (BoxAt.cell PB.out 0).trans rfl
           have kPB1 : v10.cell? ⟨w.heap.size, 1, none⟩ = some (.int .i64 v) := (BoxAt.cell PB.out 1).trans rfl
           have kPB2 : v10.cell? ⟨w.heap.size, 2, none⟩ = some (.slice sa l.length sc) := (BoxAt.cell PB.out 2).trans rfl
           clear b g z hfl FL5)
        | fail)
      refine bodyPost_ret (results_box_tmp2 rfl _ _ (v2.heap.size) 24 _ (0, 0) _ rfl RB.out Try.underlying24 rfl Try.infoBd) rfl ?_
      exact ⟨q, rfl, HQ.out, HB.out⟩

set_option maxRecDepth 100000 in
set_option maxHeartbeats 1600000 in
theorem rbsame_any (is : Bool) (v : Int) {s r : Sl} {l : List Wt} {w : World} (hs : SeesWt w s.val l) (hr : SeesWt w r.val l) :
    Calls Try.prog 11 #[BdV.val ⟨is, v, s⟩, BdV.val ⟨is, v, r⟩] w fun e w' => e = .returned (.bool true) ∧ Below w.heap.size w w' := by
  have HS := hid hs
  have HR := hid hr
  clear hs hr
  unfold BdV.val
  simp only
  have hii : (is == is) = true := by cases is <;> rfl
  have hvv : (v == v) = true := by simp
  have HB := hid (Below.refl w.heap.size w)
  go_enter Try.func11, Try.ntmps11
  have FL1 := hid trivial
  have FL2 := hid trivial
  go_wp2_with (first
    | (have hfl := FL1.out
       refine wpList_box rfl 24 (.tmp 0) rfl #[.bool is, .int .i64 v, .slice s.a s.n s.c] rfl ?_
       intro v1 b h z
       have PA := hid (show BoxAt v1 w.heap.size 24 #[.bool is, .int .i64 v, .slice s.a s.n s.c] from b)
       have HB := hid (HB.out.trans (h.mono HB.out.size))
       have hsv1 : w.heap.size + 1 ≤ v1.heap.size := by first | exact h.size | omega
       clear b h z hfl FL1)
    | (have hfl := FL2.out
       refine wpList_box rfl 24 (.tmp 1) rfl #[.bool is, .int .i64 v, .slice r.a r.n r.c] rfl ?_
       intro v2 b h z
       have PB := hid (show BoxAt v2 v1.heap.size 24 #[.bool is, .int .i64 v, .slice r.a r.n r.c] from b)
       have PA := hid (PA.out.belowAll h)
       have HB := hid (HB.out.trans (h.mono HB.out.size))
       have hsv2 : v1.heap.size + 1 ≤ v2.heap.size := by first | exact h.size | omega
       clear b h z hfl FL2
       refine Hid.out ?_)
    | fail)
  refine hid ?_
  have kPA0 : v2.cell? ⟨w.heap.size, 0, none⟩ = some (.bool is) := (BoxAt.cell PA.out 0).trans rfl
  have kPA1 : v2.cell? ⟨w.heap.size, 1, none⟩ = some (.int .i64 v) := (BoxAt.cell PA.out 1).trans rfl
  have kPA2 : v2.cell? ⟨w.heap.size, 2, none⟩ = some (.slice s.a s.n s.c) := (BoxAt.cell PA.out 2).trans rfl
  have kPB0 : v2.cell? ⟨v1.heap.size, 0, none⟩ = some (.bool is) := (BoxAt.cell PB.out 0).trans rfl
  have kPB1 : v2.cell? ⟨v1.heap.size, 1, none⟩ = some (.int .i64 v) := (BoxAt.cell PB.out 1).trans rfl
  have kPB2 : v2.cell? ⟨v1.heap.size, 2, none⟩ = some (.slice r.a r.n r.c) := (BoxAt.cell PB.out 2).trans rfl
  go_wp2_with fail
  refine (same_Wt (HS.out.below HB.out) (HR.out.below HB.out)).mono ?_
  rintro e v3 ⟨rfl, hb⟩
  have PA := hid (PA.out.belowAll hb)
  have PB := hid (PB.out.belowAll hb)
  have HB := hid (HB.out.trans (hb.mono HB.out.size))
  have hsv3 : v2.heap.size ≤ v3.heap.size := by first | exact hb.size | omega
  clear kPA0 kPA1 kPA2 kPB0 kPB1 kPB2
  have kPA0 : v3.cell? ⟨w.heap.size, 0, none⟩ = some (.bool is) := (BoxAt.cell PA.out 0).trans rfl
  have kPA1 : v3.cell? ⟨w.heap.size, 1, none⟩ = some (.int .i64 v) := (BoxAt.cell PA.out 1).trans rfl
  have kPA2 : v3.cell? ⟨w.heap.size, 2, none⟩ = some (.slice s.a s.n s.c) := (BoxAt.cell PA.out 2).trans rfl
  have kPB0 : v3.cell? ⟨v1.heap.size, 0, none⟩ = some (.bool is) := (BoxAt.cell PB.out 0).trans rfl
  have kPB1 : v3.cell? ⟨v1.heap.size, 1, none⟩ = some (.int .i64 v) := (BoxAt.cell PB.out 1).trans rfl
  have kPB2 : v3.cell? ⟨v1.heap.size, 2, none⟩ = some (.slice r.a r.n r.c) := (BoxAt.cell PB.out 2).trans rfl
  clear hb
  go_wp2
  go_ret
  exact ⟨rfl, HB.out⟩

end Go.Proofs.Ytpojoflhmbnfmaa
