/-
  SemaOwn: the walk.
-/
import Derived.Test.YtjdaneppjgljpaaSeAwake
import Derived.Test.YtjdaneppjgljpaaSeOpen
import Derived.BigQuiet
namespace Go.Proofs.Ytjdaneppjgljpaa
open Go.RowKit
set_option linter.unusedVariables false


set_option maxRecDepth 100000 in
set_option maxHeartbeats 3200000 in
theorem walk_SemaOwn (w : World) (x0 : SeX) (f0 : x0.fit w) (y : Wt) (f1 : y.fit) :
    Calls Try.prog 7 #[x0.val, y.val] w fun e w' => e = .returned (.bool true) ∧ Below w.heap.size w w' := by
  obtain ⟨p, r, v⟩ := y
  clear f1
  obtain ⟨⟨c, m, k, s⟩, ⟨c', m', k', l⟩⟩ := x0
  obtain ⟨⟨h1, h2, h3, hs⟩, -⟩ := f0
  simp only at h1 h2 h3 hs
  subst h1 h2 h3
  have HV := hid hs
  obtain ⟨a2, c2, hs1, hc1, hc2, -⟩ := hs.form
  obtain ⟨sa, sn, sc⟩ := s
  simp only [Sl.val, Value.slice.injEq] at hs1
  obtain ⟨rfl, rfl, rfl⟩ := hs1
  unfold maxLen at hc2
  simp only [Sl.val] at HV
  clear hs
  unfold SeX.val SeV.val Wt.val
  simp only
  obtain ⟨M, hM⟩ : ∃ M, l.length = M := ⟨_, rfl⟩
  have HM := hid hM
  rw [hM] at hc1 HV ⊢
  clear hM
  have HB := hid (Below.refl w.heap.size w)
  have emm : (m == m) = true := by simp
  go_enter Try.func7, Try.ntmps7
  have FL1 := hid trivial
  have FL2 := hid trivial
  go_wp2_with (first
    | (have hfl := FL1.out
       refine wpList_box rfl 24 (.tmp 0) rfl #[.int .i64 c, .int .i64 m, .bool k, .slice sa M sc] rfl ?_
       intro v1 b h z
       have PB := hid (show BoxAt v1 w.heap.size 24 #[.int .i64 c, .int .i64 m, .bool k, .slice sa M sc] from b)
       have HB := hid (HB.out.trans (h.mono HB.out.size))
       have hsv1 : w.heap.size + 1 ≤ v1.heap.size := by first | exact h.size | omega
       clear b h z hfl FL1)
    | (have hfl := FL2.out
       refine wpList_box rfl 26 (.tmp 1) rfl #[.int .i64 p, .int .i64 r, .int .i64 v] rfl ?_
       intro v2 b h z
       have WB := hid (show BoxAt v2 v1.heap.size 26 #[.int .i64 p, .int .i64 r, .int .i64 v] from b)
       have PB := hid (PB.out.belowAll h)
       have HB := hid (HB.out.trans (h.mono HB.out.size))
       have hsv2 : v1.heap.size + 1 ≤ v2.heap.size := by first | exact h.size | omega
       have kPB3 : v2.cell? ⟨w.heap.size, 3, none⟩ = some (.slice sa M sc) := (BoxAt.cell PB.out 3).trans rfl
       clear b h z hfl FL2)
    | fail)
  refine (seawake_any _).mono ?_
  rintro e v3 ⟨rfl, hb⟩
  have PB := hid (PB.out.belowAll hb)
  have WB := hid (WB.out.belowAll hb)
  have HB := hid (HB.out.trans (hb.mono HB.out.size))
  have hsv3 : v2.heap.size ≤ v3.heap.size := by first | exact hb.size | omega
  clear kPB3
  have kPB3 : v3.cell? ⟨w.heap.size, 3, none⟩ = some (.slice sa M sc) := (BoxAt.cell PB.out 3).trans rfl
  clear hb
  by_cases hgd0 : (60 : Int) < (M : Int)
  · go_wp2
    go_ret
    exact ⟨rfl, HB.out⟩
  have HL := hid (show l.length ≤ 60 by have := HM.out; omega)
  go_wp2_with fail
  clear kPB3
  have PB := hid (BoxAt.drew PB.out)
  have WB := hid (BoxAt.drew WB.out)
  have HB := hid (HB.out.drew)
  have hsv4 : v3.heap.size ≤ v3.drew.heap.size := Nat.le_refl _
  refine wp_region_held_drew (S := (fun w' : World => BoxAt w' (w.heap.size) 24 #[.int .i64 c, .int .i64 m, .bool k, .slice sa M sc])) (by kernel_rfl) (PB.out) (fun hHeld => ?_)
  generalize v3.drew = v4 at *
  refine wpAnyH_take (i := 0) (oi := { dst := some 23, op := Op.fieldAddr 24 (Operand.tmp 2) 0, type := 0, pos := "more.go:64", after := _, guard := none }) (v := ?_) rfl (by kernel_rfl) (by kernel_rfl) (by kernel_rfl) (fun _ _ _ h => h) (Or.inl ⟨by rfl, ?_⟩) (by assumption) ?_
  rotate_left
  · (intro w hSw; (try dsimp only at hSw); go_simp; try with_reducible rfl)
  simp only [Act.put, List.setIfInBounds_toArray, List.set_cons_zero, List.set_cons_succ]
  refine wpAnyH_take (i := 1) (oi := { dst := some 24, op := Op.load 3 (Operand.tmp 23), type := 3, pos := "more.go:64", after := _, guard := none }) (v := ?_) rfl (by kernel_rfl) (by kernel_rfl) (by kernel_rfl) (fun _ _ _ h => h) (Or.inl ⟨by rfl, ?_⟩) (by assumption) ?_
  rotate_left
  · (intro W hSw; (try dsimp only at hSw); have hs0S := hSw; have c0_0 : W.cell? ⟨w.heap.size, 0, none⟩ = some (.int .i64 c) := (BoxAt.cell hs0S 0).trans rfl; have c0_1 : W.cell? ⟨w.heap.size, 1, none⟩ = some (.int .i64 m) := (BoxAt.cell hs0S 1).trans rfl; have c0_2 : W.cell? ⟨w.heap.size, 2, none⟩ = some (.bool k) := (BoxAt.cell hs0S 2).trans rfl; have c0_3 : W.cell? ⟨w.heap.size, 3, none⟩ = some (.slice sa M sc) := (BoxAt.cell hs0S 3).trans rfl; clear hs0S; go_simp; try with_reducible rfl)
  simp only [Act.put, List.setIfInBounds_toArray, List.set_cons_zero, List.set_cons_succ]
  refine wpAnyH_take (i := 2) (oi := { dst := some 25, op := Op.fieldAddr 24 (Operand.tmp 2) 1, type := 0, pos := "more.go:64", after := _, guard := none }) (v := ?_) rfl (by kernel_rfl) (by kernel_rfl) (by kernel_rfl) (fun _ _ _ h => h) (Or.inl ⟨by rfl, ?_⟩) (by assumption) ?_
  rotate_left
  · (intro w hSw; (try dsimp only at hSw); go_simp; try with_reducible rfl)
  simp only [Act.put, List.setIfInBounds_toArray, List.set_cons_zero, List.set_cons_succ]
  refine wpAnyH_take (i := 3) (oi := { dst := some 26, op := Op.load 3 (Operand.tmp 25), type := 3, pos := "more.go:64", after := _, guard := none }) (v := ?_) rfl (by kernel_rfl) (by kernel_rfl) (by kernel_rfl) (fun _ _ _ h => h) (Or.inl ⟨by rfl, ?_⟩) (by assumption) ?_
  rotate_left
  · (intro W hSw; (try dsimp only at hSw); have hs0S := hSw; have c0_0 : W.cell? ⟨w.heap.size, 0, none⟩ = some (.int .i64 c) := (BoxAt.cell hs0S 0).trans rfl; have c0_1 : W.cell? ⟨w.heap.size, 1, none⟩ = some (.int .i64 m) := (BoxAt.cell hs0S 1).trans rfl; have c0_2 : W.cell? ⟨w.heap.size, 2, none⟩ = some (.bool k) := (BoxAt.cell hs0S 2).trans rfl; have c0_3 : W.cell? ⟨w.heap.size, 3, none⟩ = some (.slice sa M sc) := (BoxAt.cell hs0S 3).trans rfl; clear hs0S; go_simp; try with_reducible rfl)
  simp only [Act.put, List.setIfInBounds_toArray, List.set_cons_zero, List.set_cons_succ]
  refine wpAnyH_take (i := 4) (oi := { dst := some 27, op := Op.fieldAddr 24 (Operand.tmp 2) 2, type := 0, pos := "more.go:64", after := _, guard := none }) (v := ?_) rfl (by kernel_rfl) (by kernel_rfl) (by kernel_rfl) (fun _ _ _ h => h) (Or.inl ⟨by rfl, ?_⟩) (by assumption) ?_
  rotate_left
  · (intro w hSw; (try dsimp only at hSw); go_simp; try with_reducible rfl)
  simp only [Act.put, List.setIfInBounds_toArray, List.set_cons_zero, List.set_cons_succ]
  refine wpAnyH_take (i := 5) (oi := { dst := some 28, op := Op.load 4 (Operand.tmp 27), type := 4, pos := "more.go:64", after := _, guard := none }) (v := ?_) rfl (by kernel_rfl) (by kernel_rfl) (by kernel_rfl) (fun _ _ _ h => h) (Or.inl ⟨by rfl, ?_⟩) (by assumption) ?_
  rotate_left
  · (intro W hSw; (try dsimp only at hSw); have hs0S := hSw; have c0_0 : W.cell? ⟨w.heap.size, 0, none⟩ = some (.int .i64 c) := (BoxAt.cell hs0S 0).trans rfl; have c0_1 : W.cell? ⟨w.heap.size, 1, none⟩ = some (.int .i64 m) := (BoxAt.cell hs0S 1).trans rfl; have c0_2 : W.cell? ⟨w.heap.size, 2, none⟩ = some (.bool k) := (BoxAt.cell hs0S 2).trans rfl; have c0_3 : W.cell? ⟨w.heap.size, 3, none⟩ = some (.slice sa M sc) := (BoxAt.cell hs0S 3).trans rfl; clear hs0S; go_simp; try with_reducible rfl)
  simp only [Act.put, List.setIfInBounds_toArray, List.set_cons_zero, List.set_cons_succ]
  refine wpAnyH_take (i := 6) (oi := { dst := some 29, op := Op.fieldAddr 24 (Operand.tmp 2) 3, type := 0, pos := "more.go:64", after := _, guard := none }) (v := ?_) rfl (by kernel_rfl) (by kernel_rfl) (by kernel_rfl) (fun _ _ _ h => h) (Or.inl ⟨by rfl, ?_⟩) (by assumption) ?_
  rotate_left
  · (intro w hSw; (try dsimp only at hSw); go_simp; try with_reducible rfl)
  simp only [Act.put, List.setIfInBounds_toArray, List.set_cons_zero, List.set_cons_succ]
  refine wpAnyH_take (i := 7) (oi := { dst := some 30, op := Op.load 22 (Operand.tmp 29), type := 22, pos := "more.go:64", after := _, guard := none }) (v := ?_) rfl (by kernel_rfl) (by kernel_rfl) (by kernel_rfl) (fun _ _ _ h => h) (Or.inl ⟨by rfl, ?_⟩) (by assumption) ?_
  rotate_left
  · (intro W hSw; (try dsimp only at hSw); have hs0S := hSw; have c0_0 : W.cell? ⟨w.heap.size, 0, none⟩ = some (.int .i64 c) := (BoxAt.cell hs0S 0).trans rfl; have c0_1 : W.cell? ⟨w.heap.size, 1, none⟩ = some (.int .i64 m) := (BoxAt.cell hs0S 1).trans rfl; have c0_2 : W.cell? ⟨w.heap.size, 2, none⟩ = some (.bool k) := (BoxAt.cell hs0S 2).trans rfl; have c0_3 : W.cell? ⟨w.heap.size, 3, none⟩ = some (.slice sa M sc) := (BoxAt.cell hs0S 3).trans rfl; clear hs0S; go_simp; try with_reducible rfl)
  simp only [Act.put, List.setIfInBounds_toArray, List.set_cons_zero, List.set_cons_succ]
  refine wpAnyH_ready (rs := [8, 10]) (by kernel_rfl) (by simp) (AllReadyH.cons (o := { dst := some 31, op := Op.call { callee := Callee.builtin Builtin.append, args := #[Operand.const (Value.slice none 0 0), Operand.tmp 30], argTypes := #[22, 22] }, type := 22, pos := "more.go:64", after := _, guard := none }) rfl (fun K1009 hK1009 => ?b1009_8) (AllReadyH.cons (o := { dst := some 6, op := Op.alloc 24, type := 0, pos := "more.go:64", after := _, guard := none }) rfl (fun K1009 hK1009 => ?b1009_10) AllReadyH.nil))
  case' b1009_8 =>
    refine step_app_nilWt rfl (.tmp 30) rfl _ l rfl (HV.out.below HB.out) (by have := HL.out; omega) ?_
    intro uv5 v5 ho h
    obtain ⟨qv5, rfl, -⟩ := ho.sl
    have PB := hid (PB.out.belowAll h)
    have WB := hid (WB.out.belowAll h)
    have HB := hid (HB.out.trans (h.mono HB.out.size))
    have hsv5 : v4.heap.size ≤ v5.heap.size := by first | exact h.size | omega
    have HWL := hid ho
    clear ho h
    refine hK1009.out _ _ (PB.out) (fun hHeld1009 => ?_)
    clear hK1009 K1009
    try simp only [Act.put, List.setIfInBounds_toArray, List.set_cons_zero, List.set_cons_succ]
    refine wpAnyH_take (i := 9) (oi := { dst := some 32, op := Op.build 24 #[(0, Operand.tmp 24), (1, Operand.tmp 26), (2, Operand.tmp 28), (3, Operand.tmp 31)], type := 24, pos := "more.go:64", after := _, guard := none }) (v := ?_) rfl (by kernel_rfl) (by kernel_rfl) (by kernel_rfl) (fun _ _ _ h => h) (Or.inl ⟨by rfl, ?_⟩) (by assumption) ?_
    rotate_left
    · (intro w hSw; (try dsimp only at hSw); go_simp; try with_reducible rfl)
    simp only [Act.put, List.setIfInBounds_toArray, List.set_cons_zero, List.set_cons_succ]
    refine wpAnyH_ready (rs := [10]) (by kernel_rfl) (by simp) (AllReadyH.cons (o := { dst := some 6, op := Op.alloc 24, type := 0, pos := "more.go:64", after := _, guard := none }) rfl (fun K1011 hK1011 => ?_) AllReadyH.nil)
    refine step_new rfl 24 rfl _ Try.zeroSe ?_
    intro v6 b h z
    have SB := hid (show BoxAt v6 v5.heap.size 24 #[.int .i64 0, .int .i64 0, .bool false, .slice none 0 0] from b)
    have PB := hid (PB.out.belowAll h)
    have WB := hid (WB.out.belowAll h)
    have HWL := hid (HWL.out.below h)
    have HB := hid (HB.out.trans (h.mono HB.out.size))
    have hsv6 : v5.heap.size + 1 ≤ v6.heap.size := by first | exact h.size | omega
    clear b h z
    refine hK1011.out _ _ (PB.out) (fun hHeld1011 => ?_)
    clear hK1011 K1011
    try simp only [Act.put, List.setIfInBounds_toArray, List.set_cons_zero, List.set_cons_succ]
    refine wpAnyH_ready (rs := [11]) (by kernel_rfl) (by simp) (AllReadyH.cons (o := { dst := none, op := Op.store 24 (Operand.tmp 6) (Operand.tmp 32), type := 0, pos := "more.go:64", after := _, guard := none }) rfl (fun K1012 hK1012 => ?_) AllReadyH.nil)
    refine step_store_whole rfl 24 _ _ rfl (v5.heap.size) rfl [.int .i64 c, .int .i64 m, .bool k, .slice qv5.a qv5.n qv5.c] rfl _ _ SB.out rfl Try.infoSe (by simp [Value.oneCell']) ?_
    intro v7 b g z
    have hsv7 : v6.heap.size ≤ v7.heap.size := by omega
    have HWL := hid (HWL.out.put g SB.out (by decide))
    have SB := hid (show BoxAt v7 (v5.heap.size) 24 #[.int .i64 c, .int .i64 m, .bool k, .slice qv5.a qv5.n qv5.c] from b)
    have PB := hid (PB.out.grown g (fun e => by have := Option.some.inj e; omega))
    have WB := hid (WB.out.grown g (fun e => by have := Option.some.inj e; omega))
    have HB := hid (HB.out.trans (grown_below g (by omega) (by omega)))
    clear b g z
    refine hK1012.out _ _ (PB.out) (fun hHeld1012 => ?_)
    clear hK1012 K1012
    try simp only [Act.put]
    refine wpAnyH_done (by kernel_rfl) ?_ _
    clear hHeld hHeld1009 hHeld1011 hHeld1012
    have kPB3 : v7.cell? ⟨w.heap.size, 3, none⟩ = some (.slice sa M sc) := (BoxAt.cell PB.out 3).trans rfl
    have HWLB := hid (fun k hk => (HWL.out.lt k hk).2)
    go_wp2_with (first
      | (refine wpList_load_box rfl 24 _ rfl (w.heap.size) rfl _ _ PB.out _ Try.underlying24 Try.infoSe ?_)
      | (refine wpList_load_box rfl 26 _ rfl (v1.heap.size) rfl _ _ WB.out _ Try.underlying26 Try.infoWt ?_)
      | fail)
    refine (get_any c m k p r v true (s := ⟨sa, M, sc⟩) (HV.out.below HB.out) (by have := HL.out; omega)).mono ?_
    rintro e v8 ⟨x1, rfl, hu, hb⟩
    have PB := hid (PB.out.belowAll hb)
    have WB := hid (WB.out.belowAll hb)
    have SB := hid (SB.out.belowAll hb)
    have HWL := hid (HWL.out.below hb)
    have HB := hid (HB.out.trans (hb.mono HB.out.size))
    have hsv8 : v7.heap.size ≤ v8.heap.size := by first | exact hb.size | omega
    obtain ⟨GN, hGN⟩ : ∃ cc, getN c = cc := ⟨_, rfl⟩
    obtain ⟨GC, hGC⟩ : ∃ cc, getC c true = cc := ⟨_, rfl⟩
    obtain ⟨X1, hX1⟩ : ∃ cc, getL c k l ⟨p, r, v⟩ true = cc := ⟨_, rfl⟩
    rw [hGN, hGC]
    rw [hX1] at hu
    have HX := hid hu
    have HXN := hid hu.n
    have HXB := hid (fun k hk => (hu.lt k hk).2)
    have HXL := hid hu.lt
    obtain ⟨xa, xn, xc⟩ := x1
    clear hu hGN hGC hX1
    clear kPB3
    have kPB3 : v8.cell? ⟨w.heap.size, 3, none⟩ = some (.slice sa M sc) := (BoxAt.cell PB.out 3).trans rfl
    clear hb
    have FL3 := hid trivial
    have FL4 := hid trivial
    go_wp2_with (first
      | (have hfl := FL3.out
         refine wpList_new rfl 24 rfl _ Try.zeroSe ?_
         intro v9 b h z
         have XB := hid (show BoxAt v9 v8.heap.size 24 #[.int .i64 0, .int .i64 0, .bool false, .slice none 0 0] from b)
         have PB := hid (PB.out.belowAll h)
         have WB := hid (WB.out.belowAll h)
         have SB := hid (SB.out.belowAll h)
         have HWL := hid (HWL.out.below h)
         have HX := hid (HX.out.below h)
         have HB := hid (HB.out.trans (h.mono HB.out.size))
         have hsv9 : v8.heap.size + 1 ≤ v9.heap.size := by first | exact h.size | omega
         clear kPB3
         have kPB3 : v9.cell? ⟨w.heap.size, 3, none⟩ = some (.slice sa M sc) := (BoxAt.cell PB.out 3).trans rfl
         clear b h z hfl FL3)
      | (have hfl := FL4.out
         refine wpList_store_whole rfl 24 _ _ rfl rfl (v8.heap.size) rfl [.int .i64 GN, .int .i64 m, .bool k, .slice xa xn xc] rfl _ _ XB.out rfl Try.infoSe (by simp [Value.oneCell']) ?_
         intro v10 b g z
         have hsv10 : v9.heap.size ≤ v10.heap.size := by omega
         have HWL := hid (HWL.out.put g XB.out (by decide))
         have HX := hid (HX.out.put g XB.out (by decide))
         have XB := hid (show BoxAt v10 (v8.heap.size) 24 #[.int .i64 GN, .int .i64 m, .bool k, .slice xa xn xc] from b)
         have PB := hid (PB.out.grown g (fun e => by have := Option.some.inj e; omega))
         have WB := hid (WB.out.grown g (fun e => by have := Option.some.inj e; omega))
         have SB := hid (SB.out.grown g (fun e => by have := Option.some.inj e; omega))
         have HB := hid (HB.out.trans (grown_below g (by omega) (by omega)))
         clear kPB3
         have kPB3 : v10.cell? ⟨w.heap.size, 3, none⟩ = some (.slice sa M sc) := (BoxAt.cell PB.out 3).trans rfl
         clear b g z hfl FL4)
      | (refine wpList_load_box rfl 24 _ rfl (w.heap.size) rfl _ _ PB.out _ Try.underlying24 Try.infoSe ?_)
      | fail)
    refine (put_any c m k (s := ⟨sa, M, sc⟩) (HV.out.below HB.out) (by have := HL.out; omega)).mono ?_
    rintro e v11 ⟨y1, q1, rfl, hu, hq, hb⟩
    have PB := hid (PB.out.belowAll hb)
    have WB := hid (WB.out.belowAll hb)
    have SB := hid (SB.out.belowAll hb)
    have XB := hid (XB.out.belowAll hb)
    have HWL := hid (HWL.out.below hb)
    have HX := hid (HX.out.below hb)
    have HB := hid (HB.out.trans (hb.mono HB.out.size))
    have hsv11 : v10.heap.size ≤ v11.heap.size := by first | exact hb.size | omega
    obtain ⟨PN, hPN⟩ : ∃ cc, putN c m l = cc := ⟨_, rfl⟩
    obtain ⟨PC, hPC⟩ : ∃ cc, putC c m l = cc := ⟨_, rfl⟩
    obtain ⟨Y1, hY1⟩ : ∃ cc, l.drop 1 = cc := ⟨_, rfl⟩
    rw [hPN, hPC]
    rw [hY1] at hu
    have HY := hid hu
    have HYN := hid hu.n
    have HYL := hid hu.lt
    obtain ⟨ya, yn, yc⟩ := y1
    clear hu hq hPN hPC hY1
    clear kPB3
    have kPB3 : v11.cell? ⟨w.heap.size, 3, none⟩ = some (.slice sa M sc) := (BoxAt.cell PB.out 3).trans rfl
    clear hb
    have FL5 := hid trivial
    have FL6 := hid trivial
    go_wp2_with (first
      | (have hfl := FL5.out
         refine wpList_new rfl 24 rfl _ Try.zeroSe ?_
         intro v12 b h z
         have YB := hid (show BoxAt v12 v11.heap.size 24 #[.int .i64 0, .int .i64 0, .bool false, .slice none 0 0] from b)
         have PB := hid (PB.out.belowAll h)
         have WB := hid (WB.out.belowAll h)
         have SB := hid (SB.out.belowAll h)
         have XB := hid (XB.out.belowAll h)
         have HWL := hid (HWL.out.below h)
         have HX := hid (HX.out.below h)
         have HY := hid (HY.out.below h)
         have HB := hid (HB.out.trans (h.mono HB.out.size))
         have hsv12 : v11.heap.size + 1 ≤ v12.heap.size := by first | exact h.size | omega
         clear kPB3
         have kPB3 : v12.cell? ⟨w.heap.size, 3, none⟩ = some (.slice sa M sc) := (BoxAt.cell PB.out 3).trans rfl
         clear b h z hfl FL5)
      | (have hfl := FL6.out
         refine wpList_store_whole rfl 24 _ _ rfl rfl (v11.heap.size) rfl [.int .i64 PN, .int .i64 m, .bool k, .slice ya yn yc] rfl _ _ YB.out rfl Try.infoSe (by simp [Value.oneCell']) ?_
         intro v13 b g z
         have hsv13 : v12.heap.size ≤ v13.heap.size := by omega
         have HWL := hid (HWL.out.put g YB.out (by decide))
         have HX := hid (HX.out.put g YB.out (by decide))
         have HY := hid (HY.out.put g YB.out (by decide))
         have YB := hid (show BoxAt v13 (v11.heap.size) 24 #[.int .i64 PN, .int .i64 m, .bool k, .slice ya yn yc] from b)
         have PB := hid (PB.out.grown g (fun e => by have := Option.some.inj e; omega))
         have WB := hid (WB.out.grown g (fun e => by have := Option.some.inj e; omega))
         have SB := hid (SB.out.grown g (fun e => by have := Option.some.inj e; omega))
         have XB := hid (XB.out.grown g (fun e => by have := Option.some.inj e; omega))
         have HB := hid (HB.out.trans (grown_below g (by omega) (by omega)))
         clear kPB3
         have kPB3 : v13.cell? ⟨w.heap.size, 3, none⟩ = some (.slice sa M sc) := (BoxAt.cell PB.out 3).trans rfl
         clear b g z hfl FL6
         refine Hid.out ?_)
      | fail)
    refine hid ?_
    clear kPB3
    have kPB3 : v13.cell? ⟨w.heap.size, 3, none⟩ = some (.slice sa M sc) := (BoxAt.cell PB.out 3).trans rfl
    have kXB3 : v13.cell? ⟨v8.heap.size, 3, none⟩ = some (.slice xa xn xc) := (BoxAt.cell XB.out 3).trans rfl
    have kYB3 : v13.cell? ⟨v11.heap.size, 3, none⟩ = some (.slice ya yn yc) := (BoxAt.cell YB.out 3).trans rfl
    by_cases h0 : 0 < xn
    · have hun1 : 0 < X1.length := by have : xn = X1.length := HXN.out; omega
      obtain ⟨G1, cap1, hgv1, -⟩ := owns_formQ HX.out hun1
      simp only [Sl.val, Value.slice.injEq] at hgv1
      obtain ⟨rfl, -, -⟩ := hgv1
      obtain ⟨hG11, hG21⟩ := HXL.out G1 rfl
      obtain ⟨VX, hV1⟩ : ∃ V, (X1.getD 0 Wt.zero).v = V := ⟨_, rfl⟩
      have HVVX := hid hV1
      have hz1 : (0 : Int) < (xn : Int) := by omega
      clear hV1
      have HYB := hid (fun k hk => (HYL.out k hk).1)
      go_wp2_with fail
      clear kPB3 kXB3 kYB3
      have PB := hid (BoxAt.drew PB.out)
      have WB := hid (BoxAt.drew WB.out)
      have SB := hid (BoxAt.drew SB.out)
      have XB := hid (BoxAt.drew XB.out)
      have YB := hid (BoxAt.drew YB.out)
      have HWL := hid (HWL.out.below ((Below.refl v13.heap.size v13).drew))
      have HX := hid (HX.out.below ((Below.refl v13.heap.size v13).drew))
      have HY := hid (HY.out.below ((Below.refl v13.heap.size v13).drew))
      have HB := hid (HB.out.drew)
      have hsv14 : v13.heap.size ≤ v13.drew.heap.size := Nat.le_refl _
      refine wp_region_held_drew (S := (fun w' : World => BoxAt w' (v8.heap.size) 24 #[.int .i64 GN, .int .i64 m, .bool k, .slice (some ⟨G1, 0, none⟩) xn xc])) (by kernel_rfl) (XB.out) (fun hHeld => ?_)
      generalize v13.drew = v14 at *
      refine wpAnyH_take (i := 0) (oi := { dst := some 49, op := Op.fieldAddr 24 (Operand.tmp 7) 3, type := 0, pos := "more.go:68", after := _, guard := none }) (v := ?_) rfl (by kernel_rfl) (by kernel_rfl) (by kernel_rfl) (fun _ _ _ h => h) (Or.inl ⟨by rfl, ?_⟩) (by assumption) ?_
      rotate_left
      · (intro w hSw; (try dsimp only at hSw); go_simp; try with_reducible rfl)
      simp only [Act.put, List.setIfInBounds_toArray, List.set_cons_zero, List.set_cons_succ]
      refine wpAnyH_take (i := 1) (oi := { dst := some 50, op := Op.load 22 (Operand.tmp 49), type := 22, pos := "more.go:68", after := _, guard := none }) (v := ?_) rfl (by kernel_rfl) (by kernel_rfl) (by kernel_rfl) (fun _ _ _ h => h) (Or.inl ⟨by rfl, ?_⟩) (by assumption) ?_
      rotate_left
      · (intro W hSw; (try dsimp only at hSw); have hs0S := hSw; have c0_0 : W.cell? ⟨v8.heap.size, 0, none⟩ = some (.int .i64 GN) := (BoxAt.cell hs0S 0).trans rfl; have c0_1 : W.cell? ⟨v8.heap.size, 1, none⟩ = some (.int .i64 m) := (BoxAt.cell hs0S 1).trans rfl; have c0_2 : W.cell? ⟨v8.heap.size, 2, none⟩ = some (.bool k) := (BoxAt.cell hs0S 2).trans rfl; have c0_3 : W.cell? ⟨v8.heap.size, 3, none⟩ = some (.slice (some ⟨G1, 0, none⟩) xn xc) := (BoxAt.cell hs0S 3).trans rfl; clear hs0S; go_simp; try with_reducible rfl)
      simp only [Act.put, List.setIfInBounds_toArray, List.set_cons_zero, List.set_cons_succ]
      refine wpAnyH_take (i := 2) (oi := { dst := some 51, op := Op.fieldAddr 24 (Operand.tmp 7) 3, type := 0, pos := "more.go:68", after := _, guard := none }) (v := ?_) rfl (by kernel_rfl) (by kernel_rfl) (by kernel_rfl) (fun _ _ _ h => h) (Or.inl ⟨by rfl, ?_⟩) (by assumption) ?_
      rotate_left
      · (intro w hSw; (try dsimp only at hSw); go_simp; try with_reducible rfl)
      simp only [Act.put, List.setIfInBounds_toArray, List.set_cons_zero, List.set_cons_succ]
      refine wpAnyH_take (i := 3) (oi := { dst := some 52, op := Op.load 22 (Operand.tmp 51), type := 22, pos := "more.go:68", after := _, guard := none }) (v := ?_) rfl (by kernel_rfl) (by kernel_rfl) (by kernel_rfl) (fun _ _ _ h => h) (Or.inl ⟨by rfl, ?_⟩) (by assumption) ?_
      rotate_left
      · (intro W hSw; (try dsimp only at hSw); have hs0S := hSw; have c0_0 : W.cell? ⟨v8.heap.size, 0, none⟩ = some (.int .i64 GN) := (BoxAt.cell hs0S 0).trans rfl; have c0_1 : W.cell? ⟨v8.heap.size, 1, none⟩ = some (.int .i64 m) := (BoxAt.cell hs0S 1).trans rfl; have c0_2 : W.cell? ⟨v8.heap.size, 2, none⟩ = some (.bool k) := (BoxAt.cell hs0S 2).trans rfl; have c0_3 : W.cell? ⟨v8.heap.size, 3, none⟩ = some (.slice (some ⟨G1, 0, none⟩) xn xc) := (BoxAt.cell hs0S 3).trans rfl; clear hs0S; go_simp; try with_reducible rfl)
      simp only [Act.put, List.setIfInBounds_toArray, List.set_cons_zero, List.set_cons_succ]
      refine wpAnyH_take (i := 4) (oi := { dst := some 53, op := Op.indexAddr 22 (Operand.tmp 52) (Operand.const (Value.int IntKind.i64 0)), type := 0, pos := "more.go:68", after := _, guard := none }) (v := ?_) rfl (by kernel_rfl) (by kernel_rfl) (by kernel_rfl) (fun _ _ _ h => h) (Or.inl ⟨by rfl, ?_⟩) (by assumption) ?_
      rotate_left
      · (intro w hSw; (try dsimp only at hSw); go_simp; try with_reducible rfl)
      simp only [Act.put, List.setIfInBounds_toArray, List.set_cons_zero, List.set_cons_succ]
      refine wpAnyH_take (i := 5) (oi := { dst := some 54, op := Op.fieldAddr 26 (Operand.tmp 53) 2, type := 0, pos := "more.go:68", after := _, guard := none }) (v := ?_) rfl (by kernel_rfl) (by kernel_rfl) (by kernel_rfl) (fun _ _ _ h => h) (Or.inl ⟨by rfl, ?_⟩) (by assumption) ?_
      rotate_left
      · (intro w hSw; (try dsimp only at hSw); go_simp; try with_reducible rfl)
      simp only [Act.put, List.setIfInBounds_toArray, List.set_cons_zero, List.set_cons_succ]
      refine wpAnyH_ready (rs := [6]) (by kernel_rfl) (by simp) (AllReadyH.cons (o := { dst := some 55, op := Op.load 3 (Operand.tmp 54), type := 3, pos := "more.go:68", after := _, guard := none }) rfl (fun K1007 hK1007 => ?_) AllReadyH.nil)
      have cG : v14.cell? ⟨G1, 2, none⟩ = some (.int .i64 VX) := (by have h := OWt.at HX.out 0 2 hun1 (by decide); rw [Nat.zero_mul, Nat.zero_add] at h; rw [h]; exact congrArg (fun v => some (Value.int .i64 v)) HVVX.out)
      go_simp
      clear cG
      refine hK1007.out _ _ (XB.out) (fun hHeld1007 => ?_)
      clear hK1007 K1007
      try simp only [Act.put, List.setIfInBounds_toArray, List.set_cons_zero, List.set_cons_succ]
      refine wpAnyH_take (i := 7) (oi := { dst := some 56, op := Op.binOp BinOp.add 3 (Operand.tmp 55) (Operand.const (Value.int IntKind.i64 1)) 3, type := 3, pos := "more.go:68", after := _, guard := none }) (v := ?_) rfl (by kernel_rfl) (by kernel_rfl) (by kernel_rfl) (fun _ _ _ h => h) (Or.inl ⟨by rfl, ?_⟩) (by assumption) ?_
      rotate_left
      · (intro W hSw; (try dsimp only at hSw); have hs0S := hSw; clear hs0S; go_simp; try with_reducible rfl)
      simp only [Act.put, List.setIfInBounds_toArray, List.set_cons_zero, List.set_cons_succ]
      refine wpAnyH_take (i := 8) (oi := { dst := some 57, op := Op.indexAddr 22 (Operand.tmp 50) (Operand.const (Value.int IntKind.i64 0)), type := 0, pos := "more.go:68", after := _, guard := none }) (v := ?_) rfl (by kernel_rfl) (by kernel_rfl) (by kernel_rfl) (fun _ _ _ h => h) (Or.inl ⟨by rfl, ?_⟩) (by assumption) ?_
      rotate_left
      · (intro w hSw; (try dsimp only at hSw); go_simp; try with_reducible rfl)
      simp only [Act.put, List.setIfInBounds_toArray, List.set_cons_zero, List.set_cons_succ]
      refine wpAnyH_take (i := 9) (oi := { dst := some 58, op := Op.fieldAddr 26 (Operand.tmp 57) 2, type := 0, pos := "more.go:68", after := _, guard := none }) (v := ?_) rfl (by kernel_rfl) (by kernel_rfl) (by kernel_rfl) (fun _ _ _ h => h) (Or.inl ⟨by rfl, ?_⟩) (by assumption) ?_
      rotate_left
      · (intro w hSw; (try dsimp only at hSw); go_simp; try with_reducible rfl)
      simp only [Act.put, List.setIfInBounds_toArray, List.set_cons_zero, List.set_cons_succ]
      refine wpAnyH_ready (rs := [10]) (by kernel_rfl) (by simp) (AllReadyH.cons (o := { dst := none, op := Op.store 3 (Operand.tmp 58) (Operand.tmp 56), type := 0, pos := "more.go:68", after := _, guard := none }) rfl (fun K1011 hK1011 => ?_) AllReadyH.nil)
      refine step_set_Wt rfl 3 _ _ rfl _ G1 _ _ X1 HX.out 0 2 hun1 (by decide) 2 rfl rfl _ rfl rfl rfl (by kernel_rfl) ?_
      intro v15 g z
      have hsv15 : v14.heap.size ≤ v15.heap.size := by omega
      have PB := hid (PB.out.grown g (fun e => by have := Option.some.inj e; omega))
      have WB := hid (WB.out.grown g (fun e => by have := Option.some.inj e; omega))
      have SB := hid (SB.out.grown g (fun e => by have := Option.some.inj e; omega))
      have XB := hid (XB.out.grown g (fun e => by have := Option.some.inj e; omega))
      have YB := hid (YB.out.grown g (fun e => by have := Option.some.inj e; omega))
      have HWL := hid (HWL.out.apart g (fun k hk => by have := HWLB.out k hk; omega))
      have HY := hid (HY.out.apart g (fun k hk => by have := HYB.out k hk; omega))
      have HB := hid (HB.out.trans (grown_below g (by omega) (by omega)))
      clear g z
      refine hK1011.out _ _ (XB.out) (fun hHeld1011 => ?_)
      clear hK1011 K1011
      try simp only [Act.put]
      refine wpAnyH_done (by kernel_rfl) ?_ _
      clear hHeld hHeld1007 hHeld1011
      have kPB3 : v15.cell? ⟨w.heap.size, 3, none⟩ = some (.slice sa M sc) := (BoxAt.cell PB.out 3).trans rfl
      have kXB3 : v15.cell? ⟨v8.heap.size, 3, none⟩ = some (.slice (some ⟨G1, 0, none⟩) xn xc) := (BoxAt.cell XB.out 3).trans rfl
      have kYB3 : v15.cell? ⟨v11.heap.size, 3, none⟩ = some (.slice ya yn yc) := (BoxAt.cell YB.out 3).trans rfl
      clear HX
      by_cases h1 : 0 < yn
      · have hun2 : 0 < Y1.length := by have : yn = Y1.length := HYN.out; omega
        obtain ⟨G2, cap2, hgv2, -⟩ := owns_formQ HY.out hun2
        simp only [Sl.val, Value.slice.injEq] at hgv2
        obtain ⟨rfl, -, -⟩ := hgv2
        obtain ⟨hG12, hG22⟩ := HYL.out G2 rfl
        obtain ⟨VY, hV2⟩ : ∃ V, (Y1.getD 0 Wt.zero).v = V := ⟨_, rfl⟩
        have HVVY := hid hV2
        have hz2 : (0 : Int) < (yn : Int) := by omega
        clear hV2
        go_wp2_with fail
        clear kPB3 kXB3 kYB3
        have PB := hid (BoxAt.drew PB.out)
        have WB := hid (BoxAt.drew WB.out)
        have SB := hid (BoxAt.drew SB.out)
        have XB := hid (BoxAt.drew XB.out)
        have YB := hid (BoxAt.drew YB.out)
        have HWL := hid (HWL.out.below ((Below.refl v15.heap.size v15).drew))
        have HY := hid (HY.out.below ((Below.refl v15.heap.size v15).drew))
        have HB := hid (HB.out.drew)
        have hsv16 : v15.heap.size ≤ v15.drew.heap.size := Nat.le_refl _
        refine wp_region_held_drew (S := (fun w' : World => BoxAt w' (v11.heap.size) 24 #[.int .i64 PN, .int .i64 m, .bool k, .slice (some ⟨G2, 0, none⟩) yn yc])) (by kernel_rfl) (YB.out) (fun hHeld => ?_)
        generalize v15.drew = v16 at *
        refine wpAnyH_take (i := 0) (oi := { dst := some 63, op := Op.fieldAddr 24 (Operand.tmp 9) 3, type := 0, pos := "more.go:71", after := _, guard := none }) (v := ?_) rfl (by kernel_rfl) (by kernel_rfl) (by kernel_rfl) (fun _ _ _ h => h) (Or.inl ⟨by rfl, ?_⟩) (by assumption) ?_
        rotate_left
        · (intro w hSw; (try dsimp only at hSw); go_simp; try with_reducible rfl)
        simp only [Act.put, List.setIfInBounds_toArray, List.set_cons_zero, List.set_cons_succ]
        refine wpAnyH_take (i := 1) (oi := { dst := some 64, op := Op.load 22 (Operand.tmp 63), type := 22, pos := "more.go:71", after := _, guard := none }) (v := ?_) rfl (by kernel_rfl) (by kernel_rfl) (by kernel_rfl) (fun _ _ _ h => h) (Or.inl ⟨by rfl, ?_⟩) (by assumption) ?_
        rotate_left
        · (intro W hSw; (try dsimp only at hSw); have hs0S := hSw; have c0_0 : W.cell? ⟨v11.heap.size, 0, none⟩ = some (.int .i64 PN) := (BoxAt.cell hs0S 0).trans rfl; have c0_1 : W.cell? ⟨v11.heap.size, 1, none⟩ = some (.int .i64 m) := (BoxAt.cell hs0S 1).trans rfl; have c0_2 : W.cell? ⟨v11.heap.size, 2, none⟩ = some (.bool k) := (BoxAt.cell hs0S 2).trans rfl; have c0_3 : W.cell? ⟨v11.heap.size, 3, none⟩ = some (.slice (some ⟨G2, 0, none⟩) yn yc) := (BoxAt.cell hs0S 3).trans rfl; clear hs0S; go_simp; try with_reducible rfl)
        simp only [Act.put, List.setIfInBounds_toArray, List.set_cons_zero, List.set_cons_succ]
        refine wpAnyH_take (i := 2) (oi := { dst := some 65, op := Op.fieldAddr 24 (Operand.tmp 9) 3, type := 0, pos := "more.go:71", after := _, guard := none }) (v := ?_) rfl (by kernel_rfl) (by kernel_rfl) (by kernel_rfl) (fun _ _ _ h => h) (Or.inl ⟨by rfl, ?_⟩) (by assumption) ?_
        rotate_left
        · (intro w hSw; (try dsimp only at hSw); go_simp; try with_reducible rfl)
        simp only [Act.put, List.setIfInBounds_toArray, List.set_cons_zero, List.set_cons_succ]
        refine wpAnyH_take (i := 3) (oi := { dst := some 66, op := Op.load 22 (Operand.tmp 65), type := 22, pos := "more.go:71", after := _, guard := none }) (v := ?_) rfl (by kernel_rfl) (by kernel_rfl) (by kernel_rfl) (fun _ _ _ h => h) (Or.inl ⟨by rfl, ?_⟩) (by assumption) ?_
        rotate_left
        · (intro W hSw; (try dsimp only at hSw); have hs0S := hSw; have c0_0 : W.cell? ⟨v11.heap.size, 0, none⟩ = some (.int .i64 PN) := (BoxAt.cell hs0S 0).trans rfl; have c0_1 : W.cell? ⟨v11.heap.size, 1, none⟩ = some (.int .i64 m) := (BoxAt.cell hs0S 1).trans rfl; have c0_2 : W.cell? ⟨v11.heap.size, 2, none⟩ = some (.bool k) := (BoxAt.cell hs0S 2).trans rfl; have c0_3 : W.cell? ⟨v11.heap.size, 3, none⟩ = some (.slice (some ⟨G2, 0, none⟩) yn yc) := (BoxAt.cell hs0S 3).trans rfl; clear hs0S; go_simp; try with_reducible rfl)
        simp only [Act.put, List.setIfInBounds_toArray, List.set_cons_zero, List.set_cons_succ]
        refine wpAnyH_take (i := 4) (oi := { dst := some 67, op := Op.indexAddr 22 (Operand.tmp 66) (Operand.const (Value.int IntKind.i64 0)), type := 0, pos := "more.go:71", after := _, guard := none }) (v := ?_) rfl (by kernel_rfl) (by kernel_rfl) (by kernel_rfl) (fun _ _ _ h => h) (Or.inl ⟨by rfl, ?_⟩) (by assumption) ?_
        rotate_left
        · (intro w hSw; (try dsimp only at hSw); go_simp; try with_reducible rfl)
        simp only [Act.put, List.setIfInBounds_toArray, List.set_cons_zero, List.set_cons_succ]
        refine wpAnyH_take (i := 5) (oi := { dst := some 68, op := Op.fieldAddr 26 (Operand.tmp 67) 2, type := 0, pos := "more.go:71", after := _, guard := none }) (v := ?_) rfl (by kernel_rfl) (by kernel_rfl) (by kernel_rfl) (fun _ _ _ h => h) (Or.inl ⟨by rfl, ?_⟩) (by assumption) ?_
        rotate_left
        · (intro w hSw; (try dsimp only at hSw); go_simp; try with_reducible rfl)
        simp only [Act.put, List.setIfInBounds_toArray, List.set_cons_zero, List.set_cons_succ]
        refine wpAnyH_ready (rs := [6]) (by kernel_rfl) (by simp) (AllReadyH.cons (o := { dst := some 69, op := Op.load 3 (Operand.tmp 68), type := 3, pos := "more.go:71", after := _, guard := none }) rfl (fun K1007 hK1007 => ?_) AllReadyH.nil)
        have cG : v16.cell? ⟨G2, 2, none⟩ = some (.int .i64 VY) := (by have h := OWt.at HY.out 0 2 hun2 (by decide); rw [Nat.zero_mul, Nat.zero_add] at h; rw [h]; exact congrArg (fun v => some (Value.int .i64 v)) HVVY.out)
        go_simp
        clear cG
        refine hK1007.out _ _ (YB.out) (fun hHeld1007 => ?_)
        clear hK1007 K1007
        try simp only [Act.put, List.setIfInBounds_toArray, List.set_cons_zero, List.set_cons_succ]
        refine wpAnyH_take (i := 7) (oi := { dst := some 70, op := Op.binOp BinOp.add 3 (Operand.tmp 69) (Operand.const (Value.int IntKind.i64 1)) 3, type := 3, pos := "more.go:71", after := _, guard := none }) (v := ?_) rfl (by kernel_rfl) (by kernel_rfl) (by kernel_rfl) (fun _ _ _ h => h) (Or.inl ⟨by rfl, ?_⟩) (by assumption) ?_
        rotate_left
        · (intro W hSw; (try dsimp only at hSw); have hs0S := hSw; clear hs0S; go_simp; try with_reducible rfl)
        simp only [Act.put, List.setIfInBounds_toArray, List.set_cons_zero, List.set_cons_succ]
        refine wpAnyH_take (i := 8) (oi := { dst := some 71, op := Op.indexAddr 22 (Operand.tmp 64) (Operand.const (Value.int IntKind.i64 0)), type := 0, pos := "more.go:71", after := _, guard := none }) (v := ?_) rfl (by kernel_rfl) (by kernel_rfl) (by kernel_rfl) (fun _ _ _ h => h) (Or.inl ⟨by rfl, ?_⟩) (by assumption) ?_
        rotate_left
        · (intro w hSw; (try dsimp only at hSw); go_simp; try with_reducible rfl)
        simp only [Act.put, List.setIfInBounds_toArray, List.set_cons_zero, List.set_cons_succ]
        refine wpAnyH_take (i := 9) (oi := { dst := some 72, op := Op.fieldAddr 26 (Operand.tmp 71) 2, type := 0, pos := "more.go:71", after := _, guard := none }) (v := ?_) rfl (by kernel_rfl) (by kernel_rfl) (by kernel_rfl) (fun _ _ _ h => h) (Or.inl ⟨by rfl, ?_⟩) (by assumption) ?_
        rotate_left
        · (intro w hSw; (try dsimp only at hSw); go_simp; try with_reducible rfl)
        simp only [Act.put, List.setIfInBounds_toArray, List.set_cons_zero, List.set_cons_succ]
        refine wpAnyH_ready (rs := [10]) (by kernel_rfl) (by simp) (AllReadyH.cons (o := { dst := none, op := Op.store 3 (Operand.tmp 72) (Operand.tmp 70), type := 0, pos := "more.go:71", after := _, guard := none }) rfl (fun K1011 hK1011 => ?_) AllReadyH.nil)
        refine step_set_Wt rfl 3 _ _ rfl _ G2 _ _ Y1 HY.out 0 2 hun2 (by decide) 2 rfl rfl _ rfl rfl rfl (by kernel_rfl) ?_
        intro v17 g z
        have hsv17 : v16.heap.size ≤ v17.heap.size := by omega
        have PB := hid (PB.out.grown g (fun e => by have := Option.some.inj e; omega))
        have WB := hid (WB.out.grown g (fun e => by have := Option.some.inj e; omega))
        have SB := hid (SB.out.grown g (fun e => by have := Option.some.inj e; omega))
        have XB := hid (XB.out.grown g (fun e => by have := Option.some.inj e; omega))
        have YB := hid (YB.out.grown g (fun e => by have := Option.some.inj e; omega))
        have HWL := hid (HWL.out.apart g (fun k hk => by have := HWLB.out k hk; omega))
        have HB := hid (HB.out.trans (grown_below g (by omega) (by omega)))
        clear g z
        refine hK1011.out _ _ (YB.out) (fun hHeld1011 => ?_)
        clear hK1011 K1011
        try simp only [Act.put]
        refine wpAnyH_done (by kernel_rfl) ?_ _
        clear hHeld hHeld1007 hHeld1011
        have kPB3 : v17.cell? ⟨w.heap.size, 3, none⟩ = some (.slice sa M sc) := (BoxAt.cell PB.out 3).trans rfl
        have kXB3 : v17.cell? ⟨v8.heap.size, 3, none⟩ = some (.slice (some ⟨G1, 0, none⟩) xn xc) := (BoxAt.cell XB.out 3).trans rfl
        have kYB3 : v17.cell? ⟨v11.heap.size, 3, none⟩ = some (.slice (some ⟨G2, 0, none⟩) yn yc) := (BoxAt.cell YB.out 3).trans rfl
        clear HY
        go_wp2_with (first
          | (refine wpList_load_box rfl 24 _ rfl (w.heap.size) rfl _ _ PB.out _ Try.underlying24 Try.infoSe ?_)
          | (refine wpList_load_box rfl 24 _ rfl (v5.heap.size) rfl _ _ SB.out _ Try.underlying24 Try.infoSe ?_)
          | fail)
        refine (rsame_any c m k (s := ⟨sa, M, sc⟩) (r := qv5) (HV.out.below HB.out) HWL.out.sees).mono ?_
        rintro e v18 ⟨rfl, hb⟩
        have PB := hid (PB.out.belowAll hb)
        have WB := hid (WB.out.belowAll hb)
        have SB := hid (SB.out.belowAll hb)
        have XB := hid (XB.out.belowAll hb)
        have YB := hid (YB.out.belowAll hb)
        have HB := hid (HB.out.trans (hb.mono HB.out.size))
        have hsv18 : v17.heap.size ≤ v18.heap.size := by first | exact hb.size | omega
        clear kPB3 kXB3 kYB3
        have kPB3 : v18.cell? ⟨w.heap.size, 3, none⟩ = some (.slice sa M sc) := (BoxAt.cell PB.out 3).trans rfl
        have kXB3 : v18.cell? ⟨v8.heap.size, 3, none⟩ = some (.slice (some ⟨G1, 0, none⟩) xn xc) := (BoxAt.cell XB.out 3).trans rfl
        have kYB3 : v18.cell? ⟨v11.heap.size, 3, none⟩ = some (.slice (some ⟨G2, 0, none⟩) yn yc) := (BoxAt.cell YB.out 3).trans rfl
        clear hb
        clear kPB3 kXB3 kYB3
        have kPB1 : v18.cell? ⟨w.heap.size, 1, none⟩ = some (.int .i64 m) := (BoxAt.cell PB.out 1).trans rfl
        have kXB1 : v18.cell? ⟨v8.heap.size, 1, none⟩ = some (.int .i64 m) := (BoxAt.cell XB.out 1).trans rfl
        have kYB3 : v18.cell? ⟨v11.heap.size, 3, none⟩ = some (.slice (some ⟨G2, 0, none⟩) yn yc) := (BoxAt.cell YB.out 3).trans rfl
        go_wp2
        go_ret
        exact ⟨rfl, HB.out⟩
      · have hz2 : ¬ (0 : Int) < (yn : Int) := by omega
        go_wp2_with (first
          | (refine wpList_load_box rfl 24 _ rfl (w.heap.size) rfl _ _ PB.out _ Try.underlying24 Try.infoSe ?_)
          | (refine wpList_load_box rfl 24 _ rfl (v5.heap.size) rfl _ _ SB.out _ Try.underlying24 Try.infoSe ?_)
          | fail)
        refine (rsame_any c m k (s := ⟨sa, M, sc⟩) (r := qv5) (HV.out.below HB.out) HWL.out.sees).mono ?_
        rintro e v16 ⟨rfl, hb⟩
        have PB := hid (PB.out.belowAll hb)
        have WB := hid (WB.out.belowAll hb)
        have SB := hid (SB.out.belowAll hb)
        have XB := hid (XB.out.belowAll hb)
        have YB := hid (YB.out.belowAll hb)
        have HB := hid (HB.out.trans (hb.mono HB.out.size))
        have hsv16 : v15.heap.size ≤ v16.heap.size := by first | exact hb.size | omega
        clear kPB3 kXB3 kYB3
        have kPB3 : v16.cell? ⟨w.heap.size, 3, none⟩ = some (.slice sa M sc) := (BoxAt.cell PB.out 3).trans rfl
        have kXB3 : v16.cell? ⟨v8.heap.size, 3, none⟩ = some (.slice (some ⟨G1, 0, none⟩) xn xc) := (BoxAt.cell XB.out 3).trans rfl
        have kYB3 : v16.cell? ⟨v11.heap.size, 3, none⟩ = some (.slice ya yn yc) := (BoxAt.cell YB.out 3).trans rfl
        clear hb
        clear kPB3 kXB3 kYB3
        have kPB1 : v16.cell? ⟨w.heap.size, 1, none⟩ = some (.int .i64 m) := (BoxAt.cell PB.out 1).trans rfl
        have kXB1 : v16.cell? ⟨v8.heap.size, 1, none⟩ = some (.int .i64 m) := (BoxAt.cell XB.out 1).trans rfl
        have kYB3 : v16.cell? ⟨v11.heap.size, 3, none⟩ = some (.slice ya yn yc) := (BoxAt.cell YB.out 3).trans rfl
        go_wp2
        go_ret
        exact ⟨rfl, HB.out⟩
    · have hz1 : ¬ (0 : Int) < (xn : Int) := by omega
      clear HX
      by_cases h1 : 0 < yn
      · have hun2 : 0 < Y1.length := by have : yn = Y1.length := HYN.out; omega
        obtain ⟨G2, cap2, hgv2, -⟩ := owns_formQ HY.out hun2
        simp only [Sl.val, Value.slice.injEq] at hgv2
        obtain ⟨rfl, -, -⟩ := hgv2
        obtain ⟨hG12, hG22⟩ := HYL.out G2 rfl
        obtain ⟨VY, hV2⟩ : ∃ V, (Y1.getD 0 Wt.zero).v = V := ⟨_, rfl⟩
        have HVVY := hid hV2
        have hz2 : (0 : Int) < (yn : Int) := by omega
        clear hV2
        go_wp2_with fail
        clear kPB3 kXB3 kYB3
        have PB := hid (BoxAt.drew PB.out)
        have WB := hid (BoxAt.drew WB.out)
        have SB := hid (BoxAt.drew SB.out)
        have XB := hid (BoxAt.drew XB.out)
        have YB := hid (BoxAt.drew YB.out)
        have HWL := hid (HWL.out.below ((Below.refl v13.heap.size v13).drew))
        have HY := hid (HY.out.below ((Below.refl v13.heap.size v13).drew))
        have HB := hid (HB.out.drew)
        have hsv14 : v13.heap.size ≤ v13.drew.heap.size := Nat.le_refl _
        refine wp_region_held_drew (S := (fun w' : World => BoxAt w' (v11.heap.size) 24 #[.int .i64 PN, .int .i64 m, .bool k, .slice (some ⟨G2, 0, none⟩) yn yc])) (by kernel_rfl) (YB.out) (fun hHeld => ?_)
        generalize v13.drew = v14 at *
        refine wpAnyH_take (i := 0) (oi := { dst := some 63, op := Op.fieldAddr 24 (Operand.tmp 9) 3, type := 0, pos := "more.go:71", after := _, guard := none }) (v := ?_) rfl (by kernel_rfl) (by kernel_rfl) (by kernel_rfl) (fun _ _ _ h => h) (Or.inl ⟨by rfl, ?_⟩) (by assumption) ?_
        rotate_left
        · (intro w hSw; (try dsimp only at hSw); go_simp; try with_reducible rfl)
        simp only [Act.put, List.setIfInBounds_toArray, List.set_cons_zero, List.set_cons_succ]
        refine wpAnyH_take (i := 1) (oi := { dst := some 64, op := Op.load 22 (Operand.tmp 63), type := 22, pos := "more.go:71", after := _, guard := none }) (v := ?_) rfl (by kernel_rfl) (by kernel_rfl) (by kernel_rfl) (fun _ _ _ h => h) (Or.inl ⟨by rfl, ?_⟩) (by assumption) ?_
        rotate_left
        · (intro W hSw; (try dsimp only at hSw); have hs0S := hSw; have c0_0 : W.cell? ⟨v11.heap.size, 0, none⟩ = some (.int .i64 PN) := (BoxAt.cell hs0S 0).trans rfl; have c0_1 : W.cell? ⟨v11.heap.size, 1, none⟩ = some (.int .i64 m) := (BoxAt.cell hs0S 1).trans rfl; have c0_2 : W.cell? ⟨v11.heap.size, 2, none⟩ = some (.bool k) := (BoxAt.cell hs0S 2).trans rfl; have c0_3 : W.cell? ⟨v11.heap.size, 3, none⟩ = some (.slice (some ⟨G2, 0, none⟩) yn yc) := (BoxAt.cell hs0S 3).trans rfl; clear hs0S; go_simp; try with_reducible rfl)
        simp only [Act.put, List.setIfInBounds_toArray, List.set_cons_zero, List.set_cons_succ]
        refine wpAnyH_take (i := 2) (oi := { dst := some 65, op := Op.fieldAddr 24 (Operand.tmp 9) 3, type := 0, pos := "more.go:71", after := _, guard := none }) (v := ?_) rfl (by kernel_rfl) (by kernel_rfl) (by kernel_rfl) (fun _ _ _ h => h) (Or.inl ⟨by rfl, ?_⟩) (by assumption) ?_
        rotate_left
        · (intro w hSw; (try dsimp only at hSw); go_simp; try with_reducible rfl)
        simp only [Act.put, List.setIfInBounds_toArray, List.set_cons_zero, List.set_cons_succ]
        refine wpAnyH_take (i := 3) (oi := { dst := some 66, op := Op.load 22 (Operand.tmp 65), type := 22, pos := "more.go:71", after := _, guard := none }) (v := ?_) rfl (by kernel_rfl) (by kernel_rfl) (by kernel_rfl) (fun _ _ _ h => h) (Or.inl ⟨by rfl, ?_⟩) (by assumption) ?_
        rotate_left
        · (intro W hSw; (try dsimp only at hSw); have hs0S := hSw; have c0_0 : W.cell? ⟨v11.heap.size, 0, none⟩ = some (.int .i64 PN) := (BoxAt.cell hs0S 0).trans rfl; have c0_1 : W.cell? ⟨v11.heap.size, 1, none⟩ = some (.int .i64 m) := (BoxAt.cell hs0S 1).trans rfl; have c0_2 : W.cell? ⟨v11.heap.size, 2, none⟩ = some (.bool k) := (BoxAt.cell hs0S 2).trans rfl; have c0_3 : W.cell? ⟨v11.heap.size, 3, none⟩ = some (.slice (some ⟨G2, 0, none⟩) yn yc) := (BoxAt.cell hs0S 3).trans rfl; clear hs0S; go_simp; try with_reducible rfl)
        simp only [Act.put, List.setIfInBounds_toArray, List.set_cons_zero, List.set_cons_succ]
        refine wpAnyH_take (i := 4) (oi := { dst := some 67, op := Op.indexAddr 22 (Operand.tmp 66) (Operand.const (Value.int IntKind.i64 0)), type := 0, pos := "more.go:71", after := _, guard := none }) (v := ?_) rfl (by kernel_rfl) (by kernel_rfl) (by kernel_rfl) (fun _ _ _ h => h) (Or.inl ⟨by rfl, ?_⟩) (by assumption) ?_
        rotate_left
        · (intro w hSw; (try dsimp only at hSw); go_simp; try with_reducible rfl)
        simp only [Act.put, List.setIfInBounds_toArray, List.set_cons_zero, List.set_cons_succ]
        refine wpAnyH_take (i := 5) (oi := { dst := some 68, op := Op.fieldAddr 26 (Operand.tmp 67) 2, type := 0, pos := "more.go:71", after := _, guard := none }) (v := ?_) rfl (by kernel_rfl) (by kernel_rfl) (by kernel_rfl) (fun _ _ _ h => h) (Or.inl ⟨by rfl, ?_⟩) (by assumption) ?_
        rotate_left
        · (intro w hSw; (try dsimp only at hSw); go_simp; try with_reducible rfl)
        simp only [Act.put, List.setIfInBounds_toArray, List.set_cons_zero, List.set_cons_succ]
        refine wpAnyH_ready (rs := [6]) (by kernel_rfl) (by simp) (AllReadyH.cons (o := { dst := some 69, op := Op.load 3 (Operand.tmp 68), type := 3, pos := "more.go:71", after := _, guard := none }) rfl (fun K3007 hK3007 => ?_) AllReadyH.nil)
        have cG : v14.cell? ⟨G2, 2, none⟩ = some (.int .i64 VY) := (by have h := OWt.at HY.out 0 2 hun2 (by decide); rw [Nat.zero_mul, Nat.zero_add] at h; rw [h]; exact congrArg (fun v => some (Value.int .i64 v)) HVVY.out)
        go_simp
        clear cG
        refine hK3007.out _ _ (YB.out) (fun hHeld3007 => ?_)
        clear hK3007 K3007
        try simp only [Act.put, List.setIfInBounds_toArray, List.set_cons_zero, List.set_cons_succ]
        refine wpAnyH_take (i := 7) (oi := { dst := some 70, op := Op.binOp BinOp.add 3 (Operand.tmp 69) (Operand.const (Value.int IntKind.i64 1)) 3, type := 3, pos := "more.go:71", after := _, guard := none }) (v := ?_) rfl (by kernel_rfl) (by kernel_rfl) (by kernel_rfl) (fun _ _ _ h => h) (Or.inl ⟨by rfl, ?_⟩) (by assumption) ?_
        rotate_left
        · (intro W hSw; (try dsimp only at hSw); have hs0S := hSw; clear hs0S; go_simp; try with_reducible rfl)
        simp only [Act.put, List.setIfInBounds_toArray, List.set_cons_zero, List.set_cons_succ]
        refine wpAnyH_take (i := 8) (oi := { dst := some 71, op := Op.indexAddr 22 (Operand.tmp 64) (Operand.const (Value.int IntKind.i64 0)), type := 0, pos := "more.go:71", after := _, guard := none }) (v := ?_) rfl (by kernel_rfl) (by kernel_rfl) (by kernel_rfl) (fun _ _ _ h => h) (Or.inl ⟨by rfl, ?_⟩) (by assumption) ?_
        rotate_left
        · (intro w hSw; (try dsimp only at hSw); go_simp; try with_reducible rfl)
        simp only [Act.put, List.setIfInBounds_toArray, List.set_cons_zero, List.set_cons_succ]
        refine wpAnyH_take (i := 9) (oi := { dst := some 72, op := Op.fieldAddr 26 (Operand.tmp 71) 2, type := 0, pos := "more.go:71", after := _, guard := none }) (v := ?_) rfl (by kernel_rfl) (by kernel_rfl) (by kernel_rfl) (fun _ _ _ h => h) (Or.inl ⟨by rfl, ?_⟩) (by assumption) ?_
        rotate_left
        · (intro w hSw; (try dsimp only at hSw); go_simp; try with_reducible rfl)
        simp only [Act.put, List.setIfInBounds_toArray, List.set_cons_zero, List.set_cons_succ]
        refine wpAnyH_ready (rs := [10]) (by kernel_rfl) (by simp) (AllReadyH.cons (o := { dst := none, op := Op.store 3 (Operand.tmp 72) (Operand.tmp 70), type := 0, pos := "more.go:71", after := _, guard := none }) rfl (fun K3011 hK3011 => ?_) AllReadyH.nil)
        refine step_set_Wt rfl 3 _ _ rfl _ G2 _ _ Y1 HY.out 0 2 hun2 (by decide) 2 rfl rfl _ rfl rfl rfl (by kernel_rfl) ?_
        intro v15 g z
        have hsv15 : v14.heap.size ≤ v15.heap.size := by omega
        have PB := hid (PB.out.grown g (fun e => by have := Option.some.inj e; omega))
        have WB := hid (WB.out.grown g (fun e => by have := Option.some.inj e; omega))
        have SB := hid (SB.out.grown g (fun e => by have := Option.some.inj e; omega))
        have XB := hid (XB.out.grown g (fun e => by have := Option.some.inj e; omega))
        have YB := hid (YB.out.grown g (fun e => by have := Option.some.inj e; omega))
        have HWL := hid (HWL.out.apart g (fun k hk => by have := HWLB.out k hk; omega))
        have HB := hid (HB.out.trans (grown_below g (by omega) (by omega)))
        clear g z
        refine hK3011.out _ _ (YB.out) (fun hHeld3011 => ?_)
        clear hK3011 K3011
        try simp only [Act.put]
        refine wpAnyH_done (by kernel_rfl) ?_ _
        clear hHeld hHeld3007 hHeld3011
        have kPB3 : v15.cell? ⟨w.heap.size, 3, none⟩ = some (.slice sa M sc) := (BoxAt.cell PB.out 3).trans rfl
        have kXB3 : v15.cell? ⟨v8.heap.size, 3, none⟩ = some (.slice xa xn xc) := (BoxAt.cell XB.out 3).trans rfl
        have kYB3 : v15.cell? ⟨v11.heap.size, 3, none⟩ = some (.slice (some ⟨G2, 0, none⟩) yn yc) := (BoxAt.cell YB.out 3).trans rfl
        clear HY
        go_wp2_with (first
          | (refine wpList_load_box rfl 24 _ rfl (w.heap.size) rfl _ _ PB.out _ Try.underlying24 Try.infoSe ?_)
          | (refine wpList_load_box rfl 24 _ rfl (v5.heap.size) rfl _ _ SB.out _ Try.underlying24 Try.infoSe ?_)
          | fail)
        refine (rsame_any c m k (s := ⟨sa, M, sc⟩) (r := qv5) (HV.out.below HB.out) HWL.out.sees).mono ?_
        rintro e v16 ⟨rfl, hb⟩
        have PB := hid (PB.out.belowAll hb)
        have WB := hid (WB.out.belowAll hb)
        have SB := hid (SB.out.belowAll hb)
        have XB := hid (XB.out.belowAll hb)
        have YB := hid (YB.out.belowAll hb)
        have HB := hid (HB.out.trans (hb.mono HB.out.size))
        have hsv16 : v15.heap.size ≤ v16.heap.size := by first | exact hb.size | omega
        clear kPB3 kXB3 kYB3
        have kPB3 : v16.cell? ⟨w.heap.size, 3, none⟩ = some (.slice sa M sc) := (BoxAt.cell PB.out 3).trans rfl
        have kXB3 : v16.cell? ⟨v8.heap.size, 3, none⟩ = some (.slice xa xn xc) := (BoxAt.cell XB.out 3).trans rfl
        have kYB3 : v16.cell? ⟨v11.heap.size, 3, none⟩ = some (.slice (some ⟨G2, 0, none⟩) yn yc) := (BoxAt.cell YB.out 3).trans rfl
        clear hb
        clear kPB3 kXB3 kYB3
        have kPB1 : v16.cell? ⟨w.heap.size, 1, none⟩ = some (.int .i64 m) := (BoxAt.cell PB.out 1).trans rfl
        have kXB1 : v16.cell? ⟨v8.heap.size, 1, none⟩ = some (.int .i64 m) := (BoxAt.cell XB.out 1).trans rfl
        have kYB3 : v16.cell? ⟨v11.heap.size, 3, none⟩ = some (.slice (some ⟨G2, 0, none⟩) yn yc) := (BoxAt.cell YB.out 3).trans rfl
        go_wp2
        go_ret
        exact ⟨rfl, HB.out⟩
      · have hz2 : ¬ (0 : Int) < (yn : Int) := by omega
        go_wp2_with (first
          | (refine wpList_load_box rfl 24 _ rfl (w.heap.size) rfl _ _ PB.out _ Try.underlying24 Try.infoSe ?_)
          | (refine wpList_load_box rfl 24 _ rfl (v5.heap.size) rfl _ _ SB.out _ Try.underlying24 Try.infoSe ?_)
          | fail)
        refine (rsame_any c m k (s := ⟨sa, M, sc⟩) (r := qv5) (HV.out.below HB.out) HWL.out.sees).mono ?_
        rintro e v14 ⟨rfl, hb⟩
        have PB := hid (PB.out.belowAll hb)
        have WB := hid (WB.out.belowAll hb)
        have SB := hid (SB.out.belowAll hb)
        have XB := hid (XB.out.belowAll hb)
        have YB := hid (YB.out.belowAll hb)
        have HB := hid (HB.out.trans (hb.mono HB.out.size))
        have hsv14 : v13.heap.size ≤ v14.heap.size := by first | exact hb.size | omega
        clear kPB3 kXB3 kYB3
        have kPB3 : v14.cell? ⟨w.heap.size, 3, none⟩ = some (.slice sa M sc) := (BoxAt.cell PB.out 3).trans rfl
        have kXB3 : v14.cell? ⟨v8.heap.size, 3, none⟩ = some (.slice xa xn xc) := (BoxAt.cell XB.out 3).trans rfl
        have kYB3 : v14.cell? ⟨v11.heap.size, 3, none⟩ = some (.slice ya yn yc) := (BoxAt.cell YB.out 3).trans rfl
        clear hb
        clear kPB3 kXB3 kYB3
        have kPB1 : v14.cell? ⟨w.heap.size, 1, none⟩ = some (.int .i64 m) := (BoxAt.cell PB.out 1).trans rfl
        have kXB1 : v14.cell? ⟨v8.heap.size, 1, none⟩ = some (.int .i64 m) := (BoxAt.cell XB.out 1).trans rfl
        have kYB3 : v14.cell? ⟨v11.heap.size, 3, none⟩ = some (.slice ya yn yc) := (BoxAt.cell YB.out 3).trans rfl
        go_wp2
        go_ret
        exact ⟨rfl, HB.out⟩
  case' b1009_10 =>
    refine step_new rfl 24 rfl _ Try.zeroSe ?_
    intro v5 b h z
    have SB := hid (show BoxAt v5 v4.heap.size 24 #[.int .i64 0, .int .i64 0, .bool false, .slice none 0 0] from b)
    have PB := hid (PB.out.belowAll h)
    have WB := hid (WB.out.belowAll h)
    have HB := hid (HB.out.trans (h.mono HB.out.size))
    have hsv5 : v4.heap.size + 1 ≤ v5.heap.size := by first | exact h.size | omega
    clear b h z
    refine hK1009.out _ _ (PB.out) (fun hHeld1009 => ?_)
    clear hK1009 K1009
    try simp only [Act.put, List.setIfInBounds_toArray, List.set_cons_zero, List.set_cons_succ]
    refine wpAnyH_ready (rs := [8]) (by kernel_rfl) (by simp) (AllReadyH.cons (o := { dst := some 31, op := Op.call { callee := Callee.builtin Builtin.append, args := #[Operand.const (Value.slice none 0 0), Operand.tmp 30], argTypes := #[22, 22] }, type := 22, pos := "more.go:64", after := _, guard := none }) rfl (fun K1013 hK1013 => ?_) AllReadyH.nil)
    refine step_app_nilWt rfl (.tmp 30) rfl _ l rfl (HV.out.below HB.out) (by have := HL.out; omega) ?_
    intro uv6 v6 ho h
    obtain ⟨qv6, rfl, -⟩ := ho.sl
    have PB := hid (PB.out.belowAll h)
    have WB := hid (WB.out.belowAll h)
    have SB := hid (SB.out.belowAll h)
    have HB := hid (HB.out.trans (h.mono HB.out.size))
    have hsv6 : v5.heap.size ≤ v6.heap.size := by first | exact h.size | omega
    have HWL := hid ho
    clear ho h
    refine hK1013.out _ _ (PB.out) (fun hHeld1013 => ?_)
    clear hK1013 K1013
    try simp only [Act.put, List.setIfInBounds_toArray, List.set_cons_zero, List.set_cons_succ]
    refine wpAnyH_take (i := 9) (oi := { dst := some 32, op := Op.build 24 #[(0, Operand.tmp 24), (1, Operand.tmp 26), (2, Operand.tmp 28), (3, Operand.tmp 31)], type := 24, pos := "more.go:64", after := _, guard := none }) (v := ?_) rfl (by kernel_rfl) (by kernel_rfl) (by kernel_rfl) (fun _ _ _ h => h) (Or.inl ⟨by rfl, ?_⟩) (by assumption) ?_
    rotate_left
    · (intro w hSw; (try dsimp only at hSw); go_simp; try with_reducible rfl)
    simp only [Act.put, List.setIfInBounds_toArray, List.set_cons_zero, List.set_cons_succ]
    refine wpAnyH_ready (rs := [11]) (by kernel_rfl) (by simp) (AllReadyH.cons (o := { dst := none, op := Op.store 24 (Operand.tmp 6) (Operand.tmp 32), type := 0, pos := "more.go:64", after := _, guard := none }) rfl (fun K1015 hK1015 => ?_) AllReadyH.nil)
    refine step_store_whole rfl 24 _ _ rfl (v4.heap.size) rfl [.int .i64 c, .int .i64 m, .bool k, .slice qv6.a qv6.n qv6.c] rfl _ _ SB.out rfl Try.infoSe (by simp [Value.oneCell']) ?_
    intro v7 b g z
    have hsv7 : v6.heap.size ≤ v7.heap.size := by omega
    have HWL := hid (HWL.out.put g SB.out (by decide))
    have SB := hid (show BoxAt v7 (v4.heap.size) 24 #[.int .i64 c, .int .i64 m, .bool k, .slice qv6.a qv6.n qv6.c] from b)
    have PB := hid (PB.out.grown g (fun e => by have := Option.some.inj e; omega))
    have WB := hid (WB.out.grown g (fun e => by have := Option.some.inj e; omega))
    have HB := hid (HB.out.trans (grown_below g (by omega) (by omega)))
    clear b g z
    refine hK1015.out _ _ (PB.out) (fun hHeld1015 => ?_)
    clear hK1015 K1015
    try simp only [Act.put]
    refine wpAnyH_done (by kernel_rfl) ?_ _
    clear hHeld hHeld1009 hHeld1013 hHeld1015
    have kPB3 : v7.cell? ⟨w.heap.size, 3, none⟩ = some (.slice sa M sc) := (BoxAt.cell PB.out 3).trans rfl
    have HWLB := hid (fun k hk => (HWL.out.lt k hk).2)
    go_wp2_with (first
      | (refine wpList_load_box rfl 24 _ rfl (w.heap.size) rfl _ _ PB.out _ Try.underlying24 Try.infoSe ?_)
      | (refine wpList_load_box rfl 26 _ rfl (v1.heap.size) rfl _ _ WB.out _ Try.underlying26 Try.infoWt ?_)
      | fail)
    refine (get_any c m k p r v true (s := ⟨sa, M, sc⟩) (HV.out.below HB.out) (by have := HL.out; omega)).mono ?_
    rintro e v8 ⟨x1, rfl, hu, hb⟩
    have PB := hid (PB.out.belowAll hb)
    have WB := hid (WB.out.belowAll hb)
    have SB := hid (SB.out.belowAll hb)
    have HWL := hid (HWL.out.below hb)
    have HB := hid (HB.out.trans (hb.mono HB.out.size))
    have hsv8 : v7.heap.size ≤ v8.heap.size := by first | exact hb.size | omega
    obtain ⟨GN, hGN⟩ : ∃ cc, getN c = cc := ⟨_, rfl⟩
    obtain ⟨GC, hGC⟩ : ∃ cc, getC c true = cc := ⟨_, rfl⟩
    obtain ⟨X1, hX1⟩ : ∃ cc, getL c k l ⟨p, r, v⟩ true = cc := ⟨_, rfl⟩
    rw [hGN, hGC]
    rw [hX1] at hu
    have HX := hid hu
    have HXN := hid hu.n
    have HXB := hid (fun k hk => (hu.lt k hk).2)
    have HXL := hid hu.lt
    obtain ⟨xa, xn, xc⟩ := x1
    clear hu hGN hGC hX1
    clear kPB3
    have kPB3 : v8.cell? ⟨w.heap.size, 3, none⟩ = some (.slice sa M sc) := (BoxAt.cell PB.out 3).trans rfl
    clear hb
    have FL3 := hid trivial
    have FL4 := hid trivial
    go_wp2_with (first
      | (have hfl := FL3.out
         refine wpList_new rfl 24 rfl _ Try.zeroSe ?_
         intro v9 b h z
         have XB := hid (show BoxAt v9 v8.heap.size 24 #[.int .i64 0, .int .i64 0, .bool false, .slice none 0 0] from b)
         have PB := hid (PB.out.belowAll h)
         have WB := hid (WB.out.belowAll h)
         have SB := hid (SB.out.belowAll h)
         have HWL := hid (HWL.out.below h)
         have HX := hid (HX.out.below h)
         have HB := hid (HB.out.trans (h.mono HB.out.size))
         have hsv9 : v8.heap.size + 1 ≤ v9.heap.size := by first | exact h.size | omega
         clear kPB3
         have kPB3 : v9.cell? ⟨w.heap.size, 3, none⟩ = some (.slice sa M sc) := (BoxAt.cell PB.out 3).trans rfl
         clear b h z hfl FL3)
      | (have hfl := FL4.out
         refine wpList_store_whole rfl 24 _ _ rfl rfl (v8.heap.size) rfl [.int .i64 GN, .int .i64 m, .bool k, .slice xa xn xc] rfl _ _ XB.out rfl Try.infoSe (by simp [Value.oneCell']) ?_
         intro v10 b g z
         have hsv10 : v9.heap.size ≤ v10.heap.size := by omega
         have HWL := hid (HWL.out.put g XB.out (by decide))
         have HX := hid (HX.out.put g XB.out (by decide))
         have XB := hid (show BoxAt v10 (v8.heap.size) 24 #[.int .i64 GN, .int .i64 m, .bool k, .slice xa xn xc] from b)
         have PB := hid (PB.out.grown g (fun e => by have := Option.some.inj e; omega))
         have WB := hid (WB.out.grown g (fun e => by have := Option.some.inj e; omega))
         have SB := hid (SB.out.grown g (fun e => by have := Option.some.inj e; omega))
         have HB := hid (HB.out.trans (grown_below g (by omega) (by omega)))
         clear kPB3
         have kPB3 : v10.cell? ⟨w.heap.size, 3, none⟩ = some (.slice sa M sc) := (BoxAt.cell PB.out 3).trans rfl
         clear b g z hfl FL4)
      | (refine wpList_load_box rfl 24 _ rfl (w.heap.size) rfl _ _ PB.out _ Try.underlying24 Try.infoSe ?_)
      | fail)
    refine (put_any c m k (s := ⟨sa, M, sc⟩) (HV.out.below HB.out) (by have := HL.out; omega)).mono ?_
    rintro e v11 ⟨y1, q1, rfl, hu, hq, hb⟩
    have PB := hid (PB.out.belowAll hb)
    have WB := hid (WB.out.belowAll hb)
    have SB := hid (SB.out.belowAll hb)
    have XB := hid (XB.out.belowAll hb)
    have HWL := hid (HWL.out.below hb)
    have HX := hid (HX.out.below hb)
    have HB := hid (HB.out.trans (hb.mono HB.out.size))
    have hsv11 : v10.heap.size ≤ v11.heap.size := by first | exact hb.size | omega
    obtain ⟨PN, hPN⟩ : ∃ cc, putN c m l = cc := ⟨_, rfl⟩
    obtain ⟨PC, hPC⟩ : ∃ cc, putC c m l = cc := ⟨_, rfl⟩
    obtain ⟨Y1, hY1⟩ : ∃ cc, l.drop 1 = cc := ⟨_, rfl⟩
    rw [hPN, hPC]
    rw [hY1] at hu
    have HY := hid hu
    have HYN := hid hu.n
    have HYL := hid hu.lt
    obtain ⟨ya, yn, yc⟩ := y1
    clear hu hq hPN hPC hY1
    clear kPB3
    have kPB3 : v11.cell? ⟨w.heap.size, 3, none⟩ = some (.slice sa M sc) := (BoxAt.cell PB.out 3).trans rfl
    clear hb
    have FL5 := hid trivial
    have FL6 := hid trivial
    go_wp2_with (first
      | (have hfl := FL5.out
         refine wpList_new rfl 24 rfl _ Try.zeroSe ?_
         intro v12 b h z
         have YB := hid (show BoxAt v12 v11.heap.size 24 #[.int .i64 0, .int .i64 0, .bool false, .slice none 0 0] from b)
         have PB := hid (PB.out.belowAll h)
         have WB := hid (WB.out.belowAll h)
         have SB := hid (SB.out.belowAll h)
         have XB := hid (XB.out.belowAll h)
         have HWL := hid (HWL.out.below h)
         have HX := hid (HX.out.below h)
         have HY := hid (HY.out.below h)
         have HB := hid (HB.out.trans (h.mono HB.out.size))
         have hsv12 : v11.heap.size + 1 ≤ v12.heap.size := by first | exact h.size | omega
         clear kPB3
         have kPB3 : v12.cell? ⟨w.heap.size, 3, none⟩ = some (.slice sa M sc) := (BoxAt.cell PB.out 3).trans rfl
         clear b h z hfl FL5)
      | (have hfl := FL6.out
         refine wpList_store_whole rfl 24 _ _ rfl rfl (v11.heap.size) rfl [.int .i64 PN, .int .i64 m, .bool k, .slice ya yn yc] rfl _ _ YB.out rfl Try.infoSe (by simp [Value.oneCell']) ?_
         intro v13 b g z
         have hsv13 : v12.heap.size ≤ v13.heap.size := by omega
         have HWL := hid (HWL.out.put g YB.out (by decide))
         have HX := hid (HX.out.put g YB.out (by decide))
         have HY := hid (HY.out.put g YB.out (by decide))
         have YB := hid (show BoxAt v13 (v11.heap.size) 24 #[.int .i64 PN, .int .i64 m, .bool k, .slice ya yn yc] from b)
         have PB := hid (PB.out.grown g (fun e => by have := Option.some.inj e; omega))
         have WB := hid (WB.out.grown g (fun e => by have := Option.some.inj e; omega))
         have SB := hid (SB.out.grown g (fun e => by have := Option.some.inj e; omega))
         have XB := hid (XB.out.grown g (fun e => by have := Option.some.inj e; omega))
         have HB := hid (HB.out.trans (grown_below g (by omega) (by omega)))
         clear kPB3
         have kPB3 : v13.cell? ⟨w.heap.size, 3, none⟩ = some (.slice sa M sc) := (BoxAt.cell PB.out 3).trans rfl
         clear b g z hfl FL6
         refine Hid.out ?_)
      | fail)
    refine hid ?_
    clear kPB3
    have kPB3 : v13.cell? ⟨w.heap.size, 3, none⟩ = some (.slice sa M sc) := (BoxAt.cell PB.out 3).trans rfl
    have kXB3 : v13.cell? ⟨v8.heap.size, 3, none⟩ = some (.slice xa xn xc) := (BoxAt.cell XB.out 3).trans rfl
    have kYB3 : v13.cell? ⟨v11.heap.size, 3, none⟩ = some (.slice ya yn yc) := (BoxAt.cell YB.out 3).trans rfl
    by_cases h0 : 0 < xn
    · have hun1 : 0 < X1.length := by have : xn = X1.length := HXN.out; omega
      obtain ⟨G1, cap1, hgv1, -⟩ := owns_formQ HX.out hun1
      simp only [Sl.val, Value.slice.injEq] at hgv1
      obtain ⟨rfl, -, -⟩ := hgv1
      obtain ⟨hG11, hG21⟩ := HXL.out G1 rfl
      obtain ⟨VX, hV1⟩ : ∃ V, (X1.getD 0 Wt.zero).v = V := ⟨_, rfl⟩
      have HVVX := hid hV1
      have hz1 : (0 : Int) < (xn : Int) := by omega
      clear hV1
      have HYB := hid (fun k hk => (HYL.out k hk).1)
      go_wp2_with fail
      clear kPB3 kXB3 kYB3
      have PB := hid (BoxAt.drew PB.out)
      have WB := hid (BoxAt.drew WB.out)
      have SB := hid (BoxAt.drew SB.out)
      have XB := hid (BoxAt.drew XB.out)
      have YB := hid (BoxAt.drew YB.out)
      have HWL := hid (HWL.out.below ((Below.refl v13.heap.size v13).drew))
      have HX := hid (HX.out.below ((Below.refl v13.heap.size v13).drew))
      have HY := hid (HY.out.below ((Below.refl v13.heap.size v13).drew))
      have HB := hid (HB.out.drew)
      have hsv14 : v13.heap.size ≤ v13.drew.heap.size := Nat.le_refl _
      refine wp_region_held_drew (S := (fun w' : World => BoxAt w' (v8.heap.size) 24 #[.int .i64 GN, .int .i64 m, .bool k, .slice (some ⟨G1, 0, none⟩) xn xc])) (by kernel_rfl) (XB.out) (fun hHeld => ?_)
      generalize v13.drew = v14 at *
      refine wpAnyH_take (i := 0) (oi := { dst := some 49, op := Op.fieldAddr 24 (Operand.tmp 7) 3, type := 0, pos := "more.go:68", after := _, guard := none }) (v := ?_) rfl (by kernel_rfl) (by kernel_rfl) (by kernel_rfl) (fun _ _ _ h => h) (Or.inl ⟨by rfl, ?_⟩) (by assumption) ?_
      rotate_left
      · (intro w hSw; (try dsimp only at hSw); go_simp; try with_reducible rfl)
      simp only [Act.put, List.setIfInBounds_toArray, List.set_cons_zero, List.set_cons_succ]
      refine wpAnyH_take (i := 1) (oi := { dst := some 50, op := Op.load 22 (Operand.tmp 49), type := 22, pos := "more.go:68", after := _, guard := none }) (v := ?_) rfl (by kernel_rfl) (by kernel_rfl) (by kernel_rfl) (fun _ _ _ h => h) (Or.inl ⟨by rfl, ?_⟩) (by assumption) ?_
      rotate_left
      · (intro W hSw; (try dsimp only at hSw); have hs0S := hSw; have c0_0 : W.cell? ⟨v8.heap.size, 0, none⟩ = some (.int .i64 GN) := (BoxAt.cell hs0S 0).trans rfl; have c0_1 : W.cell? ⟨v8.heap.size, 1, none⟩ = some (.int .i64 m) := (BoxAt.cell hs0S 1).trans rfl; have c0_2 : W.cell? ⟨v8.heap.size, 2, none⟩ = some (.bool k) := (BoxAt.cell hs0S 2).trans rfl; have c0_3 : W.cell? ⟨v8.heap.size, 3, none⟩ = some (.slice (some ⟨G1, 0, none⟩) xn xc) := (BoxAt.cell hs0S 3).trans rfl; clear hs0S; go_simp; try with_reducible rfl)
      simp only [Act.put, List.setIfInBounds_toArray, List.set_cons_zero, List.set_cons_succ]
      refine wpAnyH_take (i := 2) (oi := { dst := some 51, op := Op.fieldAddr 24 (Operand.tmp 7) 3, type := 0, pos := "more.go:68", after := _, guard := none }) (v := ?_) rfl (by kernel_rfl) (by kernel_rfl) (by kernel_rfl) (fun _ _ _ h => h) (Or.inl ⟨by rfl, ?_⟩) (by assumption) ?_
      rotate_left
      · (intro w hSw; (try dsimp only at hSw); go_simp; try with_reducible rfl)
      simp only [Act.put, List.setIfInBounds_toArray, List.set_cons_zero, List.set_cons_succ]
      refine wpAnyH_take (i := 3) (oi := { dst := some 52, op := Op.load 22 (Operand.tmp 51), type := 22, pos := "more.go:68", after := _, guard := none }) (v := ?_) rfl (by kernel_rfl) (by kernel_rfl) (by kernel_rfl) (fun _ _ _ h => h) (Or.inl ⟨by rfl, ?_⟩) (by assumption) ?_
      rotate_left
      · (intro W hSw; (try dsimp only at hSw); have hs0S := hSw; have c0_0 : W.cell? ⟨v8.heap.size, 0, none⟩ = some (.int .i64 GN) := (BoxAt.cell hs0S 0).trans rfl; have c0_1 : W.cell? ⟨v8.heap.size, 1, none⟩ = some (.int .i64 m) := (BoxAt.cell hs0S 1).trans rfl; have c0_2 : W.cell? ⟨v8.heap.size, 2, none⟩ = some (.bool k) := (BoxAt.cell hs0S 2).trans rfl; have c0_3 : W.cell? ⟨v8.heap.size, 3, none⟩ = some (.slice (some ⟨G1, 0, none⟩) xn xc) := (BoxAt.cell hs0S 3).trans rfl; clear hs0S; go_simp; try with_reducible rfl)
      simp only [Act.put, List.setIfInBounds_toArray, List.set_cons_zero, List.set_cons_succ]
      refine wpAnyH_take (i := 4) (oi := { dst := some 53, op := Op.indexAddr 22 (Operand.tmp 52) (Operand.const (Value.int IntKind.i64 0)), type := 0, pos := "more.go:68", after := _, guard := none }) (v := ?_) rfl (by kernel_rfl) (by kernel_rfl) (by kernel_rfl) (fun _ _ _ h => h) (Or.inl ⟨by rfl, ?_⟩) (by assumption) ?_
      rotate_left
      · (intro w hSw; (try dsimp only at hSw); go_simp; try with_reducible rfl)
      simp only [Act.put, List.setIfInBounds_toArray, List.set_cons_zero, List.set_cons_succ]
      refine wpAnyH_take (i := 5) (oi := { dst := some 54, op := Op.fieldAddr 26 (Operand.tmp 53) 2, type := 0, pos := "more.go:68", after := _, guard := none }) (v := ?_) rfl (by kernel_rfl) (by kernel_rfl) (by kernel_rfl) (fun _ _ _ h => h) (Or.inl ⟨by rfl, ?_⟩) (by assumption) ?_
      rotate_left
      · (intro w hSw; (try dsimp only at hSw); go_simp; try with_reducible rfl)
      simp only [Act.put, List.setIfInBounds_toArray, List.set_cons_zero, List.set_cons_succ]
      refine wpAnyH_ready (rs := [6]) (by kernel_rfl) (by simp) (AllReadyH.cons (o := { dst := some 55, op := Op.load 3 (Operand.tmp 54), type := 3, pos := "more.go:68", after := _, guard := none }) rfl (fun K4007 hK4007 => ?_) AllReadyH.nil)
      have cG : v14.cell? ⟨G1, 2, none⟩ = some (.int .i64 VX) := (by have h := OWt.at HX.out 0 2 hun1 (by decide); rw [Nat.zero_mul, Nat.zero_add] at h; rw [h]; exact congrArg (fun v => some (Value.int .i64 v)) HVVX.out)
      go_simp
      clear cG
      refine hK4007.out _ _ (XB.out) (fun hHeld4007 => ?_)
      clear hK4007 K4007
      try simp only [Act.put, List.setIfInBounds_toArray, List.set_cons_zero, List.set_cons_succ]
      refine wpAnyH_take (i := 7) (oi := { dst := some 56, op := Op.binOp BinOp.add 3 (Operand.tmp 55) (Operand.const (Value.int IntKind.i64 1)) 3, type := 3, pos := "more.go:68", after := _, guard := none }) (v := ?_) rfl (by kernel_rfl) (by kernel_rfl) (by kernel_rfl) (fun _ _ _ h => h) (Or.inl ⟨by rfl, ?_⟩) (by assumption) ?_
      rotate_left
      · (intro W hSw; (try dsimp only at hSw); have hs0S := hSw; clear hs0S; go_simp; try with_reducible rfl)
      simp only [Act.put, List.setIfInBounds_toArray, List.set_cons_zero, List.set_cons_succ]
      refine wpAnyH_take (i := 8) (oi := { dst := some 57, op := Op.indexAddr 22 (Operand.tmp 50) (Operand.const (Value.int IntKind.i64 0)), type := 0, pos := "more.go:68", after := _, guard := none }) (v := ?_) rfl (by kernel_rfl) (by kernel_rfl) (by kernel_rfl) (fun _ _ _ h => h) (Or.inl ⟨by rfl, ?_⟩) (by assumption) ?_
      rotate_left
      · (intro w hSw; (try dsimp only at hSw); go_simp; try with_reducible rfl)
      simp only [Act.put, List.setIfInBounds_toArray, List.set_cons_zero, List.set_cons_succ]
      refine wpAnyH_take (i := 9) (oi := { dst := some 58, op := Op.fieldAddr 26 (Operand.tmp 57) 2, type := 0, pos := "more.go:68", after := _, guard := none }) (v := ?_) rfl (by kernel_rfl) (by kernel_rfl) (by kernel_rfl) (fun _ _ _ h => h) (Or.inl ⟨by rfl, ?_⟩) (by assumption) ?_
      rotate_left
      · (intro w hSw; (try dsimp only at hSw); go_simp; try with_reducible rfl)
      simp only [Act.put, List.setIfInBounds_toArray, List.set_cons_zero, List.set_cons_succ]
      refine wpAnyH_ready (rs := [10]) (by kernel_rfl) (by simp) (AllReadyH.cons (o := { dst := none, op := Op.store 3 (Operand.tmp 58) (Operand.tmp 56), type := 0, pos := "more.go:68", after := _, guard := none }) rfl (fun K4011 hK4011 => ?_) AllReadyH.nil)
      refine step_set_Wt rfl 3 _ _ rfl _ G1 _ _ X1 HX.out 0 2 hun1 (by decide) 2 rfl rfl _ rfl rfl rfl (by kernel_rfl) ?_
      intro v15 g z
      have hsv15 : v14.heap.size ≤ v15.heap.size := by omega
      have PB := hid (PB.out.grown g (fun e => by have := Option.some.inj e; omega))
      have WB := hid (WB.out.grown g (fun e => by have := Option.some.inj e; omega))
      have SB := hid (SB.out.grown g (fun e => by have := Option.some.inj e; omega))
      have XB := hid (XB.out.grown g (fun e => by have := Option.some.inj e; omega))
      have YB := hid (YB.out.grown g (fun e => by have := Option.some.inj e; omega))
      have HWL := hid (HWL.out.apart g (fun k hk => by have := HWLB.out k hk; omega))
      have HY := hid (HY.out.apart g (fun k hk => by have := HYB.out k hk; omega))
      have HB := hid (HB.out.trans (grown_below g (by omega) (by omega)))
      clear g z
      refine hK4011.out _ _ (XB.out) (fun hHeld4011 => ?_)
      clear hK4011 K4011
      try simp only [Act.put]
      refine wpAnyH_done (by kernel_rfl) ?_ _
      clear hHeld hHeld4007 hHeld4011
      have kPB3 : v15.cell? ⟨w.heap.size, 3, none⟩ = some (.slice sa M sc) := (BoxAt.cell PB.out 3).trans rfl
      have kXB3 : v15.cell? ⟨v8.heap.size, 3, none⟩ = some (.slice (some ⟨G1, 0, none⟩) xn xc) := (BoxAt.cell XB.out 3).trans rfl
      have kYB3 : v15.cell? ⟨v11.heap.size, 3, none⟩ = some (.slice ya yn yc) := (BoxAt.cell YB.out 3).trans rfl
      clear HX
      by_cases h1 : 0 < yn
      · have hun2 : 0 < Y1.length := by have : yn = Y1.length := HYN.out; omega
        obtain ⟨G2, cap2, hgv2, -⟩ := owns_formQ HY.out hun2
        simp only [Sl.val, Value.slice.injEq] at hgv2
        obtain ⟨rfl, -, -⟩ := hgv2
        obtain ⟨hG12, hG22⟩ := HYL.out G2 rfl
        obtain ⟨VY, hV2⟩ : ∃ V, (Y1.getD 0 Wt.zero).v = V := ⟨_, rfl⟩
        have HVVY := hid hV2
        have hz2 : (0 : Int) < (yn : Int) := by omega
        clear hV2
        go_wp2_with fail
        clear kPB3 kXB3 kYB3
        have PB := hid (BoxAt.drew PB.out)
        have WB := hid (BoxAt.drew WB.out)
        have SB := hid (BoxAt.drew SB.out)
        have XB := hid (BoxAt.drew XB.out)
        have YB := hid (BoxAt.drew YB.out)
        have HWL := hid (HWL.out.below ((Below.refl v15.heap.size v15).drew))
        have HY := hid (HY.out.below ((Below.refl v15.heap.size v15).drew))
        have HB := hid (HB.out.drew)
        have hsv16 : v15.heap.size ≤ v15.drew.heap.size := Nat.le_refl _
        refine wp_region_held_drew (S := (fun w' : World => BoxAt w' (v11.heap.size) 24 #[.int .i64 PN, .int .i64 m, .bool k, .slice (some ⟨G2, 0, none⟩) yn yc])) (by kernel_rfl) (YB.out) (fun hHeld => ?_)
        generalize v15.drew = v16 at *
        refine wpAnyH_take (i := 0) (oi := { dst := some 63, op := Op.fieldAddr 24 (Operand.tmp 9) 3, type := 0, pos := "more.go:71", after := _, guard := none }) (v := ?_) rfl (by kernel_rfl) (by kernel_rfl) (by kernel_rfl) (fun _ _ _ h => h) (Or.inl ⟨by rfl, ?_⟩) (by assumption) ?_
        rotate_left
        · (intro w hSw; (try dsimp only at hSw); go_simp; try with_reducible rfl)
        simp only [Act.put, List.setIfInBounds_toArray, List.set_cons_zero, List.set_cons_succ]
        refine wpAnyH_take (i := 1) (oi := { dst := some 64, op := Op.load 22 (Operand.tmp 63), type := 22, pos := "more.go:71", after := _, guard := none }) (v := ?_) rfl (by kernel_rfl) (by kernel_rfl) (by kernel_rfl) (fun _ _ _ h => h) (Or.inl ⟨by rfl, ?_⟩) (by assumption) ?_
        rotate_left
        · (intro W hSw; (try dsimp only at hSw); have hs0S := hSw; have c0_0 : W.cell? ⟨v11.heap.size, 0, none⟩ = some (.int .i64 PN) := (BoxAt.cell hs0S 0).trans rfl; have c0_1 : W.cell? ⟨v11.heap.size, 1, none⟩ = some (.int .i64 m) := (BoxAt.cell hs0S 1).trans rfl; have c0_2 : W.cell? ⟨v11.heap.size, 2, none⟩ = some (.bool k) := (BoxAt.cell hs0S 2).trans rfl; have c0_3 : W.cell? ⟨v11.heap.size, 3, none⟩ = some (.slice (some ⟨G2, 0, none⟩) yn yc) := (BoxAt.cell hs0S 3).trans rfl; clear hs0S; go_simp; try with_reducible rfl)
        simp only [Act.put, List.setIfInBounds_toArray, List.set_cons_zero, List.set_cons_succ]
        refine wpAnyH_take (i := 2) (oi := { dst := some 65, op := Op.fieldAddr 24 (Operand.tmp 9) 3, type := 0, pos := "more.go:71", after := _, guard := none }) (v := ?_) rfl (by kernel_rfl) (by kernel_rfl) (by kernel_rfl) (fun _ _ _ h => h) (Or.inl ⟨by rfl, ?_⟩) (by assumption) ?_
        rotate_left
        · (intro w hSw; (try dsimp only at hSw); go_simp; try with_reducible rfl)
        simp only [Act.put, List.setIfInBounds_toArray, List.set_cons_zero, List.set_cons_succ]
        refine wpAnyH_take (i := 3) (oi := { dst := some 66, op := Op.load 22 (Operand.tmp 65), type := 22, pos := "more.go:71", after := _, guard := none }) (v := ?_) rfl (by kernel_rfl) (by kernel_rfl) (by kernel_rfl) (fun _ _ _ h => h) (Or.inl ⟨by rfl, ?_⟩) (by assumption) ?_
        rotate_left
        · (intro W hSw; (try dsimp only at hSw); have hs0S := hSw; have c0_0 : W.cell? ⟨v11.heap.size, 0, none⟩ = some (.int .i64 PN) := (BoxAt.cell hs0S 0).trans rfl; have c0_1 : W.cell? ⟨v11.heap.size, 1, none⟩ = some (.int .i64 m) := (BoxAt.cell hs0S 1).trans rfl; have c0_2 : W.cell? ⟨v11.heap.size, 2, none⟩ = some (.bool k) := (BoxAt.cell hs0S 2).trans rfl; have c0_3 : W.cell? ⟨v11.heap.size, 3, none⟩ = some (.slice (some ⟨G2, 0, none⟩) yn yc) := (BoxAt.cell hs0S 3).trans rfl; clear hs0S; go_simp; try with_reducible rfl)
        simp only [Act.put, List.setIfInBounds_toArray, List.set_cons_zero, List.set_cons_succ]
        refine wpAnyH_take (i := 4) (oi := { dst := some 67, op := Op.indexAddr 22 (Operand.tmp 66) (Operand.const (Value.int IntKind.i64 0)), type := 0, pos := "more.go:71", after := _, guard := none }) (v := ?_) rfl (by kernel_rfl) (by kernel_rfl) (by kernel_rfl) (fun _ _ _ h => h) (Or.inl ⟨by rfl, ?_⟩) (by assumption) ?_
        rotate_left
        · (intro w hSw; (try dsimp only at hSw); go_simp; try with_reducible rfl)
        simp only [Act.put, List.setIfInBounds_toArray, List.set_cons_zero, List.set_cons_succ]
        refine wpAnyH_take (i := 5) (oi := { dst := some 68, op := Op.fieldAddr 26 (Operand.tmp 67) 2, type := 0, pos := "more.go:71", after := _, guard := none }) (v := ?_) rfl (by kernel_rfl) (by kernel_rfl) (by kernel_rfl) (fun _ _ _ h => h) (Or.inl ⟨by rfl, ?_⟩) (by assumption) ?_
        rotate_left
        · (intro w hSw; (try dsimp only at hSw); go_simp; try with_reducible rfl)
        simp only [Act.put, List.setIfInBounds_toArray, List.set_cons_zero, List.set_cons_succ]
        refine wpAnyH_ready (rs := [6]) (by kernel_rfl) (by simp) (AllReadyH.cons (o := { dst := some 69, op := Op.load 3 (Operand.tmp 68), type := 3, pos := "more.go:71", after := _, guard := none }) rfl (fun K4007 hK4007 => ?_) AllReadyH.nil)
        have cG : v16.cell? ⟨G2, 2, none⟩ = some (.int .i64 VY) := (by have h := OWt.at HY.out 0 2 hun2 (by decide); rw [Nat.zero_mul, Nat.zero_add] at h; rw [h]; exact congrArg (fun v => some (Value.int .i64 v)) HVVY.out)
        go_simp
        clear cG
        refine hK4007.out _ _ (YB.out) (fun hHeld4007 => ?_)
        clear hK4007 K4007
        try simp only [Act.put, List.setIfInBounds_toArray, List.set_cons_zero, List.set_cons_succ]
        refine wpAnyH_take (i := 7) (oi := { dst := some 70, op := Op.binOp BinOp.add 3 (Operand.tmp 69) (Operand.const (Value.int IntKind.i64 1)) 3, type := 3, pos := "more.go:71", after := _, guard := none }) (v := ?_) rfl (by kernel_rfl) (by kernel_rfl) (by kernel_rfl) (fun _ _ _ h => h) (Or.inl ⟨by rfl, ?_⟩) (by assumption) ?_
        rotate_left
        · (intro W hSw; (try dsimp only at hSw); have hs0S := hSw; clear hs0S; go_simp; try with_reducible rfl)
        simp only [Act.put, List.setIfInBounds_toArray, List.set_cons_zero, List.set_cons_succ]
        refine wpAnyH_take (i := 8) (oi := { dst := some 71, op := Op.indexAddr 22 (Operand.tmp 64) (Operand.const (Value.int IntKind.i64 0)), type := 0, pos := "more.go:71", after := _, guard := none }) (v := ?_) rfl (by kernel_rfl) (by kernel_rfl) (by kernel_rfl) (fun _ _ _ h => h) (Or.inl ⟨by rfl, ?_⟩) (by assumption) ?_
        rotate_left
        · (intro w hSw; (try dsimp only at hSw); go_simp; try with_reducible rfl)
        simp only [Act.put, List.setIfInBounds_toArray, List.set_cons_zero, List.set_cons_succ]
        refine wpAnyH_take (i := 9) (oi := { dst := some 72, op := Op.fieldAddr 26 (Operand.tmp 71) 2, type := 0, pos := "more.go:71", after := _, guard := none }) (v := ?_) rfl (by kernel_rfl) (by kernel_rfl) (by kernel_rfl) (fun _ _ _ h => h) (Or.inl ⟨by rfl, ?_⟩) (by assumption) ?_
        rotate_left
        · (intro w hSw; (try dsimp only at hSw); go_simp; try with_reducible rfl)
        simp only [Act.put, List.setIfInBounds_toArray, List.set_cons_zero, List.set_cons_succ]
        refine wpAnyH_ready (rs := [10]) (by kernel_rfl) (by simp) (AllReadyH.cons (o := { dst := none, op := Op.store 3 (Operand.tmp 72) (Operand.tmp 70), type := 0, pos := "more.go:71", after := _, guard := none }) rfl (fun K4011 hK4011 => ?_) AllReadyH.nil)
        refine step_set_Wt rfl 3 _ _ rfl _ G2 _ _ Y1 HY.out 0 2 hun2 (by decide) 2 rfl rfl _ rfl rfl rfl (by kernel_rfl) ?_
        intro v17 g z
        have hsv17 : v16.heap.size ≤ v17.heap.size := by omega
        have PB := hid (PB.out.grown g (fun e => by have := Option.some.inj e; omega))
        have WB := hid (WB.out.grown g (fun e => by have := Option.some.inj e; omega))
        have SB := hid (SB.out.grown g (fun e => by have := Option.some.inj e; omega))
        have XB := hid (XB.out.grown g (fun e => by have := Option.some.inj e; omega))
        have YB := hid (YB.out.grown g (fun e => by have := Option.some.inj e; omega))
        have HWL := hid (HWL.out.apart g (fun k hk => by have := HWLB.out k hk; omega))
        have HB := hid (HB.out.trans (grown_below g (by omega) (by omega)))
        clear g z
        refine hK4011.out _ _ (YB.out) (fun hHeld4011 => ?_)
        clear hK4011 K4011
        try simp only [Act.put]
        refine wpAnyH_done (by kernel_rfl) ?_ _
        clear hHeld hHeld4007 hHeld4011
        have kPB3 : v17.cell? ⟨w.heap.size, 3, none⟩ = some (.slice sa M sc) := (BoxAt.cell PB.out 3).trans rfl
        have kXB3 : v17.cell? ⟨v8.heap.size, 3, none⟩ = some (.slice (some ⟨G1, 0, none⟩) xn xc) := (BoxAt.cell XB.out 3).trans rfl
        have kYB3 : v17.cell? ⟨v11.heap.size, 3, none⟩ = some (.slice (some ⟨G2, 0, none⟩) yn yc) := (BoxAt.cell YB.out 3).trans rfl
        clear HY
        go_wp2_with (first
          | (refine wpList_load_box rfl 24 _ rfl (w.heap.size) rfl _ _ PB.out _ Try.underlying24 Try.infoSe ?_)
          | (refine wpList_load_box rfl 24 _ rfl (v4.heap.size) rfl _ _ SB.out _ Try.underlying24 Try.infoSe ?_)
          | fail)
        refine (rsame_any c m k (s := ⟨sa, M, sc⟩) (r := qv6) (HV.out.below HB.out) HWL.out.sees).mono ?_
        rintro e v18 ⟨rfl, hb⟩
        have PB := hid (PB.out.belowAll hb)
        have WB := hid (WB.out.belowAll hb)
        have SB := hid (SB.out.belowAll hb)
        have XB := hid (XB.out.belowAll hb)
        have YB := hid (YB.out.belowAll hb)
        have HB := hid (HB.out.trans (hb.mono HB.out.size))
        have hsv18 : v17.heap.size ≤ v18.heap.size := by first | exact hb.size | omega
        clear kPB3 kXB3 kYB3
        have kPB3 : v18.cell? ⟨w.heap.size, 3, none⟩ = some (.slice sa M sc) := (BoxAt.cell PB.out 3).trans rfl
        have kXB3 : v18.cell? ⟨v8.heap.size, 3, none⟩ = some (.slice (some ⟨G1, 0, none⟩) xn xc) := (BoxAt.cell XB.out 3).trans rfl
        have kYB3 : v18.cell? ⟨v11.heap.size, 3, none⟩ = some (.slice (some ⟨G2, 0, none⟩) yn yc) := (BoxAt.cell YB.out 3).trans rfl
        clear hb
        clear kPB3 kXB3 kYB3
        have kPB1 : v18.cell? ⟨w.heap.size, 1, none⟩ = some (.int .i64 m) := (BoxAt.cell PB.out 1).trans rfl
        have kXB1 : v18.cell? ⟨v8.heap.size, 1, none⟩ = some (.int .i64 m) := (BoxAt.cell XB.out 1).trans rfl
        have kYB3 : v18.cell? ⟨v11.heap.size, 3, none⟩ = some (.slice (some ⟨G2, 0, none⟩) yn yc) := (BoxAt.cell YB.out 3).trans rfl
        go_wp2
        go_ret
        exact ⟨rfl, HB.out⟩
      · have hz2 : ¬ (0 : Int) < (yn : Int) := by omega
        go_wp2_with (first
          | (refine wpList_load_box rfl 24 _ rfl (w.heap.size) rfl _ _ PB.out _ Try.underlying24 Try.infoSe ?_)
          | (refine wpList_load_box rfl 24 _ rfl (v4.heap.size) rfl _ _ SB.out _ Try.underlying24 Try.infoSe ?_)
          | fail)
        refine (rsame_any c m k (s := ⟨sa, M, sc⟩) (r := qv6) (HV.out.below HB.out) HWL.out.sees).mono ?_
        rintro e v16 ⟨rfl, hb⟩
        have PB := hid (PB.out.belowAll hb)
        have WB := hid (WB.out.belowAll hb)
        have SB := hid (SB.out.belowAll hb)
        have XB := hid (XB.out.belowAll hb)
        have YB := hid (YB.out.belowAll hb)
        have HB := hid (HB.out.trans (hb.mono HB.out.size))
        have hsv16 : v15.heap.size ≤ v16.heap.size := by first | exact hb.size | omega
        clear kPB3 kXB3 kYB3
        have kPB3 : v16.cell? ⟨w.heap.size, 3, none⟩ = some (.slice sa M sc) := (BoxAt.cell PB.out 3).trans rfl
        have kXB3 : v16.cell? ⟨v8.heap.size, 3, none⟩ = some (.slice (some ⟨G1, 0, none⟩) xn xc) := (BoxAt.cell XB.out 3).trans rfl
        have kYB3 : v16.cell? ⟨v11.heap.size, 3, none⟩ = some (.slice ya yn yc) := (BoxAt.cell YB.out 3).trans rfl
        clear hb
        clear kPB3 kXB3 kYB3
        have kPB1 : v16.cell? ⟨w.heap.size, 1, none⟩ = some (.int .i64 m) := (BoxAt.cell PB.out 1).trans rfl
        have kXB1 : v16.cell? ⟨v8.heap.size, 1, none⟩ = some (.int .i64 m) := (BoxAt.cell XB.out 1).trans rfl
        have kYB3 : v16.cell? ⟨v11.heap.size, 3, none⟩ = some (.slice ya yn yc) := (BoxAt.cell YB.out 3).trans rfl
        go_wp2
        go_ret
        exact ⟨rfl, HB.out⟩
    · have hz1 : ¬ (0 : Int) < (xn : Int) := by omega
      clear HX
      by_cases h1 : 0 < yn
      · have hun2 : 0 < Y1.length := by have : yn = Y1.length := HYN.out; omega
        obtain ⟨G2, cap2, hgv2, -⟩ := owns_formQ HY.out hun2
        simp only [Sl.val, Value.slice.injEq] at hgv2
        obtain ⟨rfl, -, -⟩ := hgv2
        obtain ⟨hG12, hG22⟩ := HYL.out G2 rfl
        obtain ⟨VY, hV2⟩ : ∃ V, (Y1.getD 0 Wt.zero).v = V := ⟨_, rfl⟩
        have HVVY := hid hV2
        have hz2 : (0 : Int) < (yn : Int) := by omega
        clear hV2
        go_wp2_with fail
        clear kPB3 kXB3 kYB3
        have PB := hid (BoxAt.drew PB.out)
        have WB := hid (BoxAt.drew WB.out)
        have SB := hid (BoxAt.drew SB.out)
        have XB := hid (BoxAt.drew XB.out)
        have YB := hid (BoxAt.drew YB.out)
        have HWL := hid (HWL.out.below ((Below.refl v13.heap.size v13).drew))
        have HY := hid (HY.out.below ((Below.refl v13.heap.size v13).drew))
        have HB := hid (HB.out.drew)
        have hsv14 : v13.heap.size ≤ v13.drew.heap.size := Nat.le_refl _
        refine wp_region_held_drew (S := (fun w' : World => BoxAt w' (v11.heap.size) 24 #[.int .i64 PN, .int .i64 m, .bool k, .slice (some ⟨G2, 0, none⟩) yn yc])) (by kernel_rfl) (YB.out) (fun hHeld => ?_)
        generalize v13.drew = v14 at *
        refine wpAnyH_take (i := 0) (oi := { dst := some 63, op := Op.fieldAddr 24 (Operand.tmp 9) 3, type := 0, pos := "more.go:71", after := _, guard := none }) (v := ?_) rfl (by kernel_rfl) (by kernel_rfl) (by kernel_rfl) (fun _ _ _ h => h) (Or.inl ⟨by rfl, ?_⟩) (by assumption) ?_
        rotate_left
        · (intro w hSw; (try dsimp only at hSw); go_simp; try with_reducible rfl)
        simp only [Act.put, List.setIfInBounds_toArray, List.set_cons_zero, List.set_cons_succ]
        refine wpAnyH_take (i := 1) (oi := { dst := some 64, op := Op.load 22 (Operand.tmp 63), type := 22, pos := "more.go:71", after := _, guard := none }) (v := ?_) rfl (by kernel_rfl) (by kernel_rfl) (by kernel_rfl) (fun _ _ _ h => h) (Or.inl ⟨by rfl, ?_⟩) (by assumption) ?_
        rotate_left
        · (intro W hSw; (try dsimp only at hSw); have hs0S := hSw; have c0_0 : W.cell? ⟨v11.heap.size, 0, none⟩ = some (.int .i64 PN) := (BoxAt.cell hs0S 0).trans rfl; have c0_1 : W.cell? ⟨v11.heap.size, 1, none⟩ = some (.int .i64 m) := (BoxAt.cell hs0S 1).trans rfl; have c0_2 : W.cell? ⟨v11.heap.size, 2, none⟩ = some (.bool k) := (BoxAt.cell hs0S 2).trans rfl; have c0_3 : W.cell? ⟨v11.heap.size, 3, none⟩ = some (.slice (some ⟨G2, 0, none⟩) yn yc) := (BoxAt.cell hs0S 3).trans rfl; clear hs0S; go_simp; try with_reducible rfl)
        simp only [Act.put, List.setIfInBounds_toArray, List.set_cons_zero, List.set_cons_succ]
        refine wpAnyH_take (i := 2) (oi := { dst := some 65, op := Op.fieldAddr 24 (Operand.tmp 9) 3, type := 0, pos := "more.go:71", after := _, guard := none }) (v := ?_) rfl (by kernel_rfl) (by kernel_rfl) (by kernel_rfl) (fun _ _ _ h => h) (Or.inl ⟨by rfl, ?_⟩) (by assumption) ?_
        rotate_left
        · (intro w hSw; (try dsimp only at hSw); go_simp; try with_reducible rfl)
        simp only [Act.put, List.setIfInBounds_toArray, List.set_cons_zero, List.set_cons_succ]
        refine wpAnyH_take (i := 3) (oi := { dst := some 66, op := Op.load 22 (Operand.tmp 65), type := 22, pos := "more.go:71", after := _, guard := none }) (v := ?_) rfl (by kernel_rfl) (by kernel_rfl) (by kernel_rfl) (fun _ _ _ h => h) (Or.inl ⟨by rfl, ?_⟩) (by assumption) ?_
        rotate_left
        · (intro W hSw; (try dsimp only at hSw); have hs0S := hSw; have c0_0 : W.cell? ⟨v11.heap.size, 0, none⟩ = some (.int .i64 PN) := (BoxAt.cell hs0S 0).trans rfl; have c0_1 : W.cell? ⟨v11.heap.size, 1, none⟩ = some (.int .i64 m) := (BoxAt.cell hs0S 1).trans rfl; have c0_2 : W.cell? ⟨v11.heap.size, 2, none⟩ = some (.bool k) := (BoxAt.cell hs0S 2).trans rfl; have c0_3 : W.cell? ⟨v11.heap.size, 3, none⟩ = some (.slice (some ⟨G2, 0, none⟩) yn yc) := (BoxAt.cell hs0S 3).trans rfl; clear hs0S; go_simp; try with_reducible rfl)
        simp only [Act.put, List.setIfInBounds_toArray, List.set_cons_zero, List.set_cons_succ]
        refine wpAnyH_take (i := 4) (oi := { dst := some 67, op := Op.indexAddr 22 (Operand.tmp 66) (Operand.const (Value.int IntKind.i64 0)), type := 0, pos := "more.go:71", after := _, guard := none }) (v := ?_) rfl (by kernel_rfl) (by kernel_rfl) (by kernel_rfl) (fun _ _ _ h => h) (Or.inl ⟨by rfl, ?_⟩) (by assumption) ?_
        rotate_left
        · (intro w hSw; (try dsimp only at hSw); go_simp; try with_reducible rfl)
        simp only [Act.put, List.setIfInBounds_toArray, List.set_cons_zero, List.set_cons_succ]
        refine wpAnyH_take (i := 5) (oi := { dst := some 68, op := Op.fieldAddr 26 (Operand.tmp 67) 2, type := 0, pos := "more.go:71", after := _, guard := none }) (v := ?_) rfl (by kernel_rfl) (by kernel_rfl) (by kernel_rfl) (fun _ _ _ h => h) (Or.inl ⟨by rfl, ?_⟩) (by assumption) ?_
        rotate_left
        · (intro w hSw; (try dsimp only at hSw); go_simp; try with_reducible rfl)
        simp only [Act.put, List.setIfInBounds_toArray, List.set_cons_zero, List.set_cons_succ]
        refine wpAnyH_ready (rs := [6]) (by kernel_rfl) (by simp) (AllReadyH.cons (o := { dst := some 69, op := Op.load 3 (Operand.tmp 68), type := 3, pos := "more.go:71", after := _, guard := none }) rfl (fun K6007 hK6007 => ?_) AllReadyH.nil)
        have cG : v14.cell? ⟨G2, 2, none⟩ = some (.int .i64 VY) := (by have h := OWt.at HY.out 0 2 hun2 (by decide); rw [Nat.zero_mul, Nat.zero_add] at h; rw [h]; exact congrArg (fun v => some (Value.int .i64 v)) HVVY.out)
        go_simp
        clear cG
        refine hK6007.out _ _ (YB.out) (fun hHeld6007 => ?_)
        clear hK6007 K6007
        try simp only [Act.put, List.setIfInBounds_toArray, List.set_cons_zero, List.set_cons_succ]
        refine wpAnyH_take (i := 7) (oi := { dst := some 70, op := Op.binOp BinOp.add 3 (Operand.tmp 69) (Operand.const (Value.int IntKind.i64 1)) 3, type := 3, pos := "more.go:71", after := _, guard := none }) (v := ?_) rfl (by kernel_rfl) (by kernel_rfl) (by kernel_rfl) (fun _ _ _ h => h) (Or.inl ⟨by rfl, ?_⟩) (by assumption) ?_
        rotate_left
        · (intro W hSw; (try dsimp only at hSw); have hs0S := hSw; clear hs0S; go_simp; try with_reducible rfl)
        simp only [Act.put, List.setIfInBounds_toArray, List.set_cons_zero, List.set_cons_succ]
        refine wpAnyH_take (i := 8) (oi := { dst := some 71, op := Op.indexAddr 22 (Operand.tmp 64) (Operand.const (Value.int IntKind.i64 0)), type := 0, pos := "more.go:71", after := _, guard := none }) (v := ?_) rfl (by kernel_rfl) (by kernel_rfl) (by kernel_rfl) (fun _ _ _ h => h) (Or.inl ⟨by rfl, ?_⟩) (by assumption) ?_
        rotate_left
        · (intro w hSw; (try dsimp only at hSw); go_simp; try with_reducible rfl)
        simp only [Act.put, List.setIfInBounds_toArray, List.set_cons_zero, List.set_cons_succ]
        refine wpAnyH_take (i := 9) (oi := { dst := some 72, op := Op.fieldAddr 26 (Operand.tmp 71) 2, type := 0, pos := "more.go:71", after := _, guard := none }) (v := ?_) rfl (by kernel_rfl) (by kernel_rfl) (by kernel_rfl) (fun _ _ _ h => h) (Or.inl ⟨by rfl, ?_⟩) (by assumption) ?_
        rotate_left
        · (intro w hSw; (try dsimp only at hSw); go_simp; try with_reducible rfl)
        simp only [Act.put, List.setIfInBounds_toArray, List.set_cons_zero, List.set_cons_succ]
        refine wpAnyH_ready (rs := [10]) (by kernel_rfl) (by simp) (AllReadyH.cons (o := { dst := none, op := Op.store 3 (Operand.tmp 72) (Operand.tmp 70), type := 0, pos := "more.go:71", after := _, guard := none }) rfl (fun K6011 hK6011 => ?_) AllReadyH.nil)
        refine step_set_Wt rfl 3 _ _ rfl _ G2 _ _ Y1 HY.out 0 2 hun2 (by decide) 2 rfl rfl _ rfl rfl rfl (by kernel_rfl) ?_
        intro v15 g z
        have hsv15 : v14.heap.size ≤ v15.heap.size := by omega
        have PB := hid (PB.out.grown g (fun e => by have := Option.some.inj e; omega))
        have WB := hid (WB.out.grown g (fun e => by have := Option.some.inj e; omega))
        have SB := hid (SB.out.grown g (fun e => by have := Option.some.inj e; omega))
        have XB := hid (XB.out.grown g (fun e => by have := Option.some.inj e; omega))
        have YB := hid (YB.out.grown g (fun e => by have := Option.some.inj e; omega))
        have HWL := hid (HWL.out.apart g (fun k hk => by have := HWLB.out k hk; omega))
        have HB := hid (HB.out.trans (grown_below g (by omega) (by omega)))
        clear g z
        refine hK6011.out _ _ (YB.out) (fun hHeld6011 => ?_)
        clear hK6011 K6011
        try simp only [Act.put]
        refine wpAnyH_done (by kernel_rfl) ?_ _
        clear hHeld hHeld6007 hHeld6011
        have kPB3 : v15.cell? ⟨w.heap.size, 3, none⟩ = some (.slice sa M sc) := (BoxAt.cell PB.out 3).trans rfl
        have kXB3 : v15.cell? ⟨v8.heap.size, 3, none⟩ = some (.slice xa xn xc) := (BoxAt.cell XB.out 3).trans rfl
        have kYB3 : v15.cell? ⟨v11.heap.size, 3, none⟩ = some (.slice (some ⟨G2, 0, none⟩) yn yc) := (BoxAt.cell YB.out 3).trans rfl
        clear HY
        go_wp2_with (first
          | (refine wpList_load_box rfl 24 _ rfl (w.heap.size) rfl _ _ PB.out _ Try.underlying24 Try.infoSe ?_)
          | (refine wpList_load_box rfl 24 _ rfl (v4.heap.size) rfl _ _ SB.out _ Try.underlying24 Try.infoSe ?_)
          | fail)
        refine (rsame_any c m k (s := ⟨sa, M, sc⟩) (r := qv6) (HV.out.below HB.out) HWL.out.sees).mono ?_
        rintro e v16 ⟨rfl, hb⟩
        have PB := hid (PB.out.belowAll hb)
        have WB := hid (WB.out.belowAll hb)
        have SB := hid (SB.out.belowAll hb)
        have XB := hid (XB.out.belowAll hb)
        have YB := hid (YB.out.belowAll hb)
        have HB := hid (HB.out.trans (hb.mono HB.out.size))
        have hsv16 : v15.heap.size ≤ v16.heap.size := by first | exact hb.size | omega
        clear kPB3 kXB3 kYB3
        have kPB3 : v16.cell? ⟨w.heap.size, 3, none⟩ = some (.slice sa M sc) := (BoxAt.cell PB.out 3).trans rfl
        have kXB3 : v16.cell? ⟨v8.heap.size, 3, none⟩ = some (.slice xa xn xc) := (BoxAt.cell XB.out 3).trans rfl
        have kYB3 : v16.cell? ⟨v11.heap.size, 3, none⟩ = some (.slice (some ⟨G2, 0, none⟩) yn yc) := (BoxAt.cell YB.out 3).trans rfl
        clear hb
        clear kPB3 kXB3 kYB3
        have kPB1 : v16.cell? ⟨w.heap.size, 1, none⟩ = some (.int .i64 m) := (BoxAt.cell PB.out 1).trans rfl
        have kXB1 : v16.cell? ⟨v8.heap.size, 1, none⟩ = some (.int .i64 m) := (BoxAt.cell XB.out 1).trans rfl
        have kYB3 : v16.cell? ⟨v11.heap.size, 3, none⟩ = some (.slice (some ⟨G2, 0, none⟩) yn yc) := (BoxAt.cell YB.out 3).trans rfl
        go_wp2
        go_ret
        exact ⟨rfl, HB.out⟩
      · have hz2 : ¬ (0 : Int) < (yn : Int) := by omega
        go_wp2_with (first
          | (refine wpList_load_box rfl 24 _ rfl (w.heap.size) rfl _ _ PB.out _ Try.underlying24 Try.infoSe ?_)
          | (refine wpList_load_box rfl 24 _ rfl (v4.heap.size) rfl _ _ SB.out _ Try.underlying24 Try.infoSe ?_)
          | fail)
        refine (rsame_any c m k (s := ⟨sa, M, sc⟩) (r := qv6) (HV.out.below HB.out) HWL.out.sees).mono ?_
        rintro e v14 ⟨rfl, hb⟩
        have PB := hid (PB.out.belowAll hb)
        have WB := hid (WB.out.belowAll hb)
        have SB := hid (SB.out.belowAll hb)
        have XB := hid (XB.out.belowAll hb)
        have YB := hid (YB.out.belowAll hb)
        have HB := hid (HB.out.trans (hb.mono HB.out.size))
        have hsv14 : v13.heap.size ≤ v14.heap.size := by first | exact hb.size | omega
        clear kPB3 kXB3 kYB3
        have kPB3 : v14.cell? ⟨w.heap.size, 3, none⟩ = some (.slice sa M sc) := (BoxAt.cell PB.out 3).trans rfl
        have kXB3 : v14.cell? ⟨v8.heap.size, 3, none⟩ = some (.slice xa xn xc) := (BoxAt.cell XB.out 3).trans rfl
        have kYB3 : v14.cell? ⟨v11.heap.size, 3, none⟩ = some (.slice ya yn yc) := (BoxAt.cell YB.out 3).trans rfl
        clear hb
        clear kPB3 kXB3 kYB3
        have kPB1 : v14.cell? ⟨w.heap.size, 1, none⟩ = some (.int .i64 m) := (BoxAt.cell PB.out 1).trans rfl
        have kXB1 : v14.cell? ⟨v8.heap.size, 1, none⟩ = some (.int .i64 m) := (BoxAt.cell XB.out 1).trans rfl
        have kYB3 : v14.cell? ⟨v11.heap.size, 3, none⟩ = some (.slice ya yn yc) := (BoxAt.cell YB.out 3).trans rfl
        go_wp2
        go_ret
        exact ⟨rfl, HB.out⟩

end Go.Proofs.Ytjdaneppjgljpaa
