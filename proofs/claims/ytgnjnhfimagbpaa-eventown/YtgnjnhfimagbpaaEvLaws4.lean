/-
  EventOwn: the walk.
-/
import Derived.Test.YtgnjnhfimagbpaaEvAwake
import Derived.Test.YtgnjnhfimagbpaaEvOpen
import Derived.BigQuiet
namespace Go.Proofs.Ytgnjnhfimagbpaa
open Go.RowKit
set_option linter.unusedVariables false


set_option maxRecDepth 100000 in
set_option maxHeartbeats 3200000 in
theorem walk_EventOwn (w : World) (x0 : EvX) (f0 : x0.fit w) (y : Wt) (f1 : y.fit) :
    Calls Try.prog 7 #[x0.val, y.val] w fun e w' => e = .returned (.bool true) ∧ Below w.heap.size w w' := by
  obtain ⟨p, r, v⟩ := y
  clear f1
  obtain ⟨⟨k, s⟩, ⟨k', l⟩⟩ := x0
  obtain ⟨⟨h1, hs⟩, -⟩ := f0
  simp only at h1 hs
  subst h1
  have HV := hid hs
  obtain ⟨a2, c2, hs1, hc1, hc2, -⟩ := hs.form
  obtain ⟨sa, sn, sc⟩ := s
  simp only [Sl.val, Value.slice.injEq] at hs1
  obtain ⟨rfl, rfl, rfl⟩ := hs1
  unfold maxLen at hc2
  simp only [Sl.val] at HV
  clear hs
  unfold EvX.val EvV.val Wt.val
  simp only
  obtain ⟨M, hM⟩ : ∃ M, l.length = M := ⟨_, rfl⟩
  have HM := hid hM
  rw [hM] at hc1 HV ⊢
  clear hM
  have HB := hid (Below.refl w.heap.size w)
  have emm : ((M : Int) == (M : Int)) = true := by simp
  go_enter Try.func7, Try.ntmps7
  have FL1 := hid trivial
  have FL2 := hid trivial
  go_wp2_with (first
    | (have hfl := FL1.out
       refine wpList_box rfl 24 (.tmp 0) rfl #[.bool k, .slice sa M sc] rfl ?_
       intro v1 b h z
       have PB := hid (show BoxAt v1 w.heap.size 24 #[.bool k, .slice sa M sc] from b)
       have HB := hid (HB.out.trans (h.mono HB.out.size))
       have hsv1 : w.heap.size + 1 ≤ v1.heap.size := by first | exact h.size | omega
       clear b h z hfl FL1)
    | (have hfl := FL2.out
       refine wpList_box rfl 26 (.tmp 1) rfl #[.int .i64 p, .int .i64 r, .int .i64 v] rfl ?_
       intro v2 b h z
       have WB := hid (show BoxAt v2 v1.heap.size 26 #[.int .i64 p, .int .i64 r, .int .i64 v] from b)
       have PB := hid (PB.out.belowAll h)
       have HB := hid (HB.out.trans (h.mono HB.out.size))
       have hsv2 : v1.heap.size + 1 ≤ v2.heap.size := by first | exact h.size | omega
       have kPB1 : v2.cell? ⟨w.heap.size, 1, none⟩ = some (.slice sa M sc) := (BoxAt.cell PB.out 1).trans rfl
       clear b h z hfl FL2)
    | fail)
  refine (evawake_any _).mono ?_
  rintro e v3 ⟨rfl, hb⟩
  have PB := hid (PB.out.belowAll hb)
  have WB := hid (WB.out.belowAll hb)
  have HB := hid (HB.out.trans (hb.mono HB.out.size))
  have hsv3 : v2.heap.size ≤ v3.heap.size := by first | exact hb.size | omega
  clear kPB1
  have kPB1 : v3.cell? ⟨w.heap.size, 1, none⟩ = some (.slice sa M sc) := (BoxAt.cell PB.out 1).trans rfl
  clear hb
  by_cases hgd0 : (60 : Int) < (M : Int)
  · go_wp2
    go_ret
    exact ⟨rfl, HB.out⟩
  have HL := hid (show l.length ≤ 60 by have := HM.out; omega)
  go_wp2_with fail
  clear kPB1
  have PB := hid (BoxAt.drew PB.out)
  have WB := hid (BoxAt.drew WB.out)
  have HB := hid (HB.out.drew)
  have hsv4 : v3.heap.size ≤ v3.drew.heap.size := Nat.le_refl _
  refine wp_region_held_drew (S := (fun w' : World => BoxAt w' (w.heap.size) 24 #[.bool k, .slice sa M sc])) (by kernel_rfl) (PB.out) (fun hHeld => ?_)
  generalize v3.drew = v4 at *
  refine wpAnyH_take (i := 0) (oi := { dst := some 21, op := Op.fieldAddr 24 (Operand.tmp 2) 0, type := 0, pos := "more.go:40", after := _, guard := none }) (v := ?_) rfl (by kernel_rfl) (by kernel_rfl) (by kernel_rfl) (fun _ _ _ h => h) (Or.inl ⟨by rfl, ?_⟩) (by assumption) ?_
  rotate_left
  · (intro w hSw; (try dsimp only at hSw); go_simp; try with_reducible rfl)
  simp only [Act.put, List.setIfInBounds_toArray, List.set_cons_zero, List.set_cons_succ]
  refine wpAnyH_take (i := 1) (oi := { dst := some 22, op := Op.load 4 (Operand.tmp 21), type := 4, pos := "more.go:40", after := _, guard := none }) (v := ?_) rfl (by kernel_rfl) (by kernel_rfl) (by kernel_rfl) (fun _ _ _ h => h) (Or.inl ⟨by rfl, ?_⟩) (by assumption) ?_
  rotate_left
  · (intro W hSw; (try dsimp only at hSw); have hs0S := hSw; have c0_0 : W.cell? ⟨w.heap.size, 0, none⟩ = some (.bool k) := (BoxAt.cell hs0S 0).trans rfl; have c0_1 : W.cell? ⟨w.heap.size, 1, none⟩ = some (.slice sa M sc) := (BoxAt.cell hs0S 1).trans rfl; clear hs0S; go_simp; try with_reducible rfl)
  simp only [Act.put, List.setIfInBounds_toArray, List.set_cons_zero, List.set_cons_succ]
  refine wpAnyH_take (i := 2) (oi := { dst := some 23, op := Op.fieldAddr 24 (Operand.tmp 2) 1, type := 0, pos := "more.go:40", after := _, guard := none }) (v := ?_) rfl (by kernel_rfl) (by kernel_rfl) (by kernel_rfl) (fun _ _ _ h => h) (Or.inl ⟨by rfl, ?_⟩) (by assumption) ?_
  rotate_left
  · (intro w hSw; (try dsimp only at hSw); go_simp; try with_reducible rfl)
  simp only [Act.put, List.setIfInBounds_toArray, List.set_cons_zero, List.set_cons_succ]
  refine wpAnyH_take (i := 3) (oi := { dst := some 24, op := Op.load 22 (Operand.tmp 23), type := 22, pos := "more.go:40", after := _, guard := none }) (v := ?_) rfl (by kernel_rfl) (by kernel_rfl) (by kernel_rfl) (fun _ _ _ h => h) (Or.inl ⟨by rfl, ?_⟩) (by assumption) ?_
  rotate_left
  · (intro W hSw; (try dsimp only at hSw); have hs0S := hSw; have c0_0 : W.cell? ⟨w.heap.size, 0, none⟩ = some (.bool k) := (BoxAt.cell hs0S 0).trans rfl; have c0_1 : W.cell? ⟨w.heap.size, 1, none⟩ = some (.slice sa M sc) := (BoxAt.cell hs0S 1).trans rfl; clear hs0S; go_simp; try with_reducible rfl)
  simp only [Act.put, List.setIfInBounds_toArray, List.set_cons_zero, List.set_cons_succ]
  refine wpAnyH_ready (rs := [4, 6]) (by kernel_rfl) (by simp) (AllReadyH.cons (o := { dst := some 25, op := Op.call { callee := Callee.builtin Builtin.append, args := #[Operand.const (Value.slice none 0 0), Operand.tmp 24], argTypes := #[22, 22] }, type := 22, pos := "more.go:40", after := _, guard := none }) rfl (fun K1005 hK1005 => ?b1005_4) (AllReadyH.cons (o := { dst := some 6, op := Op.alloc 24, type := 0, pos := "more.go:40", after := _, guard := none }) rfl (fun K1005 hK1005 => ?b1005_6) AllReadyH.nil))
  case' b1005_4 =>
    refine step_app_nilWt rfl (.tmp 24) rfl _ l rfl (HV.out.below HB.out) (by have := HL.out; omega) ?_
    intro uv5 v5 ho h
    obtain ⟨qv5, rfl, -⟩ := ho.sl
    have PB := hid (PB.out.belowAll h)
    have WB := hid (WB.out.belowAll h)
    have HB := hid (HB.out.trans (h.mono HB.out.size))
    have hsv5 : v4.heap.size ≤ v5.heap.size := by first | exact h.size | omega
    have HWL := hid ho
    clear ho h
    refine hK1005.out _ _ (PB.out) (fun hHeld1005 => ?_)
    clear hK1005 K1005
    try simp only [Act.put, List.setIfInBounds_toArray, List.set_cons_zero, List.set_cons_succ]
    refine wpAnyH_take (i := 5) (oi := { dst := some 26, op := Op.build 24 #[(0, Operand.tmp 22), (1, Operand.tmp 25)], type := 24, pos := "more.go:40", after := _, guard := none }) (v := ?_) rfl (by kernel_rfl) (by kernel_rfl) (by kernel_rfl) (fun _ _ _ h => h) (Or.inl ⟨by rfl, ?_⟩) (by assumption) ?_
    rotate_left
    · (intro w hSw; (try dsimp only at hSw); go_simp; try with_reducible rfl)
    simp only [Act.put, List.setIfInBounds_toArray, List.set_cons_zero, List.set_cons_succ]
    refine wpAnyH_ready (rs := [6]) (by kernel_rfl) (by simp) (AllReadyH.cons (o := { dst := some 6, op := Op.alloc 24, type := 0, pos := "more.go:40", after := _, guard := none }) rfl (fun K1007 hK1007 => ?_) AllReadyH.nil)
    refine step_new rfl 24 rfl _ Try.zeroEv ?_
    intro v6 b h z
    have SB := hid (show BoxAt v6 v5.heap.size 24 #[.bool false, .slice none 0 0] from b)
    have PB := hid (PB.out.belowAll h)
    have WB := hid (WB.out.belowAll h)
    have HWL := hid (HWL.out.below h)
    have HB := hid (HB.out.trans (h.mono HB.out.size))
    have hsv6 : v5.heap.size + 1 ≤ v6.heap.size := by first | exact h.size | omega
    clear b h z
    refine hK1007.out _ _ (PB.out) (fun hHeld1007 => ?_)
    clear hK1007 K1007
    try simp only [Act.put, List.setIfInBounds_toArray, List.set_cons_zero, List.set_cons_succ]
    refine wpAnyH_ready (rs := [7]) (by kernel_rfl) (by simp) (AllReadyH.cons (o := { dst := none, op := Op.store 24 (Operand.tmp 6) (Operand.tmp 26), type := 0, pos := "more.go:40", after := _, guard := none }) rfl (fun K1008 hK1008 => ?_) AllReadyH.nil)
    refine step_store_whole rfl 24 _ _ rfl (v5.heap.size) rfl [.bool k, .slice qv5.a qv5.n qv5.c] rfl _ _ SB.out rfl Try.infoEv (by simp [Value.oneCell']) ?_
    intro v7 b g z
    have hsv7 : v6.heap.size ≤ v7.heap.size := by omega
    have HWL := hid (HWL.out.put g SB.out (by decide))
    have SB := hid (show BoxAt v7 (v5.heap.size) 24 #[.bool k, .slice qv5.a qv5.n qv5.c] from b)
    have PB := hid (PB.out.grown g (fun e => by have := Option.some.inj e; omega))
    have WB := hid (WB.out.grown g (fun e => by have := Option.some.inj e; omega))
    have HB := hid (HB.out.trans (grown_below g (by omega) (by omega)))
    clear b g z
    refine hK1008.out _ _ (PB.out) (fun hHeld1008 => ?_)
    clear hK1008 K1008
    try simp only [Act.put]
    refine wpAnyH_done (by kernel_rfl) ?_ _
    clear hHeld hHeld1005 hHeld1007 hHeld1008
    have kPB1 : v7.cell? ⟨w.heap.size, 1, none⟩ = some (.slice sa M sc) := (BoxAt.cell PB.out 1).trans rfl
    have HWLB := hid (fun k hk => (HWL.out.lt k hk).2)
    go_wp2_with (first
      | (refine wpList_load_box rfl 24 _ rfl (w.heap.size) rfl _ _ PB.out _ Try.underlying24 Try.infoEv ?_)
      | fail)
    refine (set_any k (s := ⟨sa, M, sc⟩) (HV.out.below HB.out) (by have := HL.out; omega)).mono ?_
    rintro e v8 ⟨q0, rfl, hq, hb⟩
    have PB := hid (PB.out.belowAll hb)
    have WB := hid (WB.out.belowAll hb)
    have SB := hid (SB.out.belowAll hb)
    have HWL := hid (HWL.out.below hb)
    have HB := hid (HB.out.trans (hb.mono HB.out.size))
    have hsv8 : v7.heap.size ≤ v8.heap.size := by first | exact hb.size | omega
    clear hq
    clear kPB1
    have kPB1 : v8.cell? ⟨w.heap.size, 1, none⟩ = some (.slice sa M sc) := (BoxAt.cell PB.out 1).trans rfl
    clear hb
    go_wp2_with (first
      | (refine wpList_load_box rfl 24 _ rfl (w.heap.size) rfl _ _ PB.out _ Try.underlying24 Try.infoEv ?_)
      | fail)
    refine (reset_any k (s := ⟨sa, M, sc⟩) (HV.out.below HB.out) (by have := HL.out; omega)).mono ?_
    rintro e v9 ⟨x1, rfl, hu, hb⟩
    have PB := hid (PB.out.belowAll hb)
    have WB := hid (WB.out.belowAll hb)
    have SB := hid (SB.out.belowAll hb)
    have HWL := hid (HWL.out.below hb)
    have HB := hid (HB.out.trans (hb.mono HB.out.size))
    have hsv9 : v8.heap.size ≤ v9.heap.size := by first | exact hb.size | omega
    obtain ⟨X1, hX1⟩ : ∃ cc, l = cc := ⟨_, rfl⟩
    have hxn := hu.n
    rw [HM.out] at hxn
    rw [hX1] at hu
    have HX := hid hu
    have HXN := hid (show M = X1.length from by rw [← hX1]; exact HM.out.symm)
    have HXB := hid (fun k hk => (hu.lt k hk).2)
    have HXL := hid hu.lt
    obtain ⟨xa, xn, xc⟩ := x1
    simp only at hxn
    have hxm := hxn.symm
    clear hu hX1 hxn
    subst hxm
    clear kPB1
    have kPB1 : v9.cell? ⟨w.heap.size, 1, none⟩ = some (.slice sa M sc) := (BoxAt.cell PB.out 1).trans rfl
    clear hb
    have FL3 := hid trivial
    have FL4 := hid trivial
    go_wp2_with (first
      | (have hfl := FL3.out
         refine wpList_new rfl 24 rfl _ Try.zeroEv ?_
         intro v10 b h z
         have XB := hid (show BoxAt v10 v9.heap.size 24 #[.bool false, .slice none 0 0] from b)
         have PB := hid (PB.out.belowAll h)
         have WB := hid (WB.out.belowAll h)
         have SB := hid (SB.out.belowAll h)
         have HWL := hid (HWL.out.below h)
         have HX := hid (HX.out.below h)
         have HB := hid (HB.out.trans (h.mono HB.out.size))
         have hsv10 : v9.heap.size + 1 ≤ v10.heap.size := by first | exact h.size | omega
         clear kPB1
         have kPB1 : v10.cell? ⟨w.heap.size, 1, none⟩ = some (.slice sa M sc) := (BoxAt.cell PB.out 1).trans rfl
         clear b h z hfl FL3)
      | (have hfl := FL4.out
         refine wpList_store_whole rfl 24 _ _ rfl rfl (v9.heap.size) rfl [.bool false, .slice xa M xc] rfl _ _ XB.out rfl Try.infoEv (by simp [Value.oneCell']) ?_
         intro v11 b g z
         have hsv11 : v10.heap.size ≤ v11.heap.size := by omega
         have HWL := hid (HWL.out.put g XB.out (by decide))
         have HX := hid (HX.out.put g XB.out (by decide))
         have XB := hid (show BoxAt v11 (v9.heap.size) 24 #[.bool false, .slice xa M xc] from b)
         have PB := hid (PB.out.grown g (fun e => by have := Option.some.inj e; omega))
         have WB := hid (WB.out.grown g (fun e => by have := Option.some.inj e; omega))
         have SB := hid (SB.out.grown g (fun e => by have := Option.some.inj e; omega))
         have HB := hid (HB.out.trans (grown_below g (by omega) (by omega)))
         clear kPB1
         have kPB1 : v11.cell? ⟨w.heap.size, 1, none⟩ = some (.slice sa M sc) := (BoxAt.cell PB.out 1).trans rfl
         clear b g z hfl FL4)
      | (refine wpList_load_box rfl 24 _ rfl (w.heap.size) rfl _ _ PB.out _ Try.underlying24 Try.infoEv ?_)
      | (refine wpList_load_box rfl 26 _ rfl (v1.heap.size) rfl _ _ WB.out _ Try.underlying26 Try.infoWt ?_)
      | fail)
    refine (await_any k p r v true (s := ⟨sa, M, sc⟩) (HV.out.below HB.out) (by have := HL.out; omega)).mono ?_
    rintro e v12 ⟨y1, rfl, hu, hb⟩
    have PB := hid (PB.out.belowAll hb)
    have WB := hid (WB.out.belowAll hb)
    have SB := hid (SB.out.belowAll hb)
    have XB := hid (XB.out.belowAll hb)
    have HWL := hid (HWL.out.below hb)
    have HX := hid (HX.out.below hb)
    have HB := hid (HB.out.trans (hb.mono HB.out.size))
    have hsv12 : v11.heap.size ≤ v12.heap.size := by first | exact hb.size | omega
    obtain ⟨PC, hPC⟩ : ∃ cc, awC k true = cc := ⟨_, rfl⟩
    obtain ⟨Y1, hY1⟩ : ∃ cc, awL k true l ⟨p, r, v⟩ = cc := ⟨_, rfl⟩
    rw [hPC]
    rw [hY1] at hu
    have HY := hid hu
    have HYN := hid hu.n
    have HYL := hid hu.lt
    obtain ⟨ya, yn, yc⟩ := y1
    clear hu hPC hY1
    clear kPB1
    have kPB1 : v12.cell? ⟨w.heap.size, 1, none⟩ = some (.slice sa M sc) := (BoxAt.cell PB.out 1).trans rfl
    clear hb
    have FL5 := hid trivial
    have FL6 := hid trivial
    go_wp2_with (first
      | (have hfl := FL5.out
         refine wpList_new rfl 24 rfl _ Try.zeroEv ?_
         intro v13 b h z
         have YB := hid (show BoxAt v13 v12.heap.size 24 #[.bool false, .slice none 0 0] from b)
         have PB := hid (PB.out.belowAll h)
         have WB := hid (WB.out.belowAll h)
         have SB := hid (SB.out.belowAll h)
         have XB := hid (XB.out.belowAll h)
         have HWL := hid (HWL.out.below h)
         have HX := hid (HX.out.below h)
         have HY := hid (HY.out.below h)
         have HB := hid (HB.out.trans (h.mono HB.out.size))
         have hsv13 : v12.heap.size + 1 ≤ v13.heap.size := by first | exact h.size | omega
         clear kPB1
         have kPB1 : v13.cell? ⟨w.heap.size, 1, none⟩ = some (.slice sa M sc) := (BoxAt.cell PB.out 1).trans rfl
         clear b h z hfl FL5)
      | (have hfl := FL6.out
         refine wpList_store_whole rfl 24 _ _ rfl rfl (v12.heap.size) rfl [.bool k, .slice ya yn yc] rfl _ _ YB.out rfl Try.infoEv (by simp [Value.oneCell']) ?_
         intro v14 b g z
         have hsv14 : v13.heap.size ≤ v14.heap.size := by omega
         have HWL := hid (HWL.out.put g YB.out (by decide))
         have HX := hid (HX.out.put g YB.out (by decide))
         have HY := hid (HY.out.put g YB.out (by decide))
         have YB := hid (show BoxAt v14 (v12.heap.size) 24 #[.bool k, .slice ya yn yc] from b)
         have PB := hid (PB.out.grown g (fun e => by have := Option.some.inj e; omega))
         have WB := hid (WB.out.grown g (fun e => by have := Option.some.inj e; omega))
         have SB := hid (SB.out.grown g (fun e => by have := Option.some.inj e; omega))
         have XB := hid (XB.out.grown g (fun e => by have := Option.some.inj e; omega))
         have HB := hid (HB.out.trans (grown_below g (by omega) (by omega)))
         clear kPB1
         have kPB1 : v14.cell? ⟨w.heap.size, 1, none⟩ = some (.slice sa M sc) := (BoxAt.cell PB.out 1).trans rfl
         clear b g z hfl FL6
         refine Hid.out ?_)
      | fail)
    refine hid ?_
    clear kPB1
    have kPB1 : v14.cell? ⟨w.heap.size, 1, none⟩ = some (.slice sa M sc) := (BoxAt.cell PB.out 1).trans rfl
    have kXB1 : v14.cell? ⟨v9.heap.size, 1, none⟩ = some (.slice xa M xc) := (BoxAt.cell XB.out 1).trans rfl
    have kYB1 : v14.cell? ⟨v12.heap.size, 1, none⟩ = some (.slice ya yn yc) := (BoxAt.cell YB.out 1).trans rfl
    by_cases h0 : 0 < M
    · have hun1 : 0 < X1.length := by have : M = X1.length := HXN.out; omega
      obtain ⟨G1, cap1, hgv1, -⟩ := owns_formQ HX.out hun1
      simp only [Sl.val, Value.slice.injEq] at hgv1
      obtain ⟨rfl, -, -⟩ := hgv1
      obtain ⟨hG11, hG21⟩ := HXL.out G1 rfl
      obtain ⟨VX, hV1⟩ : ∃ V, (X1.getD 0 Wt.zero).v = V := ⟨_, rfl⟩
      have HVVX := hid hV1
      have hz1 : (0 : Int) < (M : Int) := by omega
      clear hV1
      have HYB := hid (fun k hk => (HYL.out k hk).1)
      go_wp2_with fail
      clear kPB1 kXB1 kYB1
      have PB := hid (BoxAt.drew PB.out)
      have WB := hid (BoxAt.drew WB.out)
      have SB := hid (BoxAt.drew SB.out)
      have XB := hid (BoxAt.drew XB.out)
      have YB := hid (BoxAt.drew YB.out)
      have HWL := hid (HWL.out.below ((Below.refl v14.heap.size v14).drew))
      have HX := hid (HX.out.below ((Below.refl v14.heap.size v14).drew))
      have HY := hid (HY.out.below ((Below.refl v14.heap.size v14).drew))
      have HB := hid (HB.out.drew)
      have hsv15 : v14.heap.size ≤ v14.drew.heap.size := Nat.le_refl _
      refine wp_region_held_drew (S := (fun w' : World => BoxAt w' (v9.heap.size) 24 #[.bool false, .slice (some ⟨G1, 0, none⟩) M xc])) (by kernel_rfl) (XB.out) (fun hHeld => ?_)
      generalize v14.drew = v15 at *
      refine wpAnyH_take (i := 0) (oi := { dst := some 41, op := Op.fieldAddr 24 (Operand.tmp 7) 1, type := 0, pos := "more.go:45", after := _, guard := none }) (v := ?_) rfl (by kernel_rfl) (by kernel_rfl) (by kernel_rfl) (fun _ _ _ h => h) (Or.inl ⟨by rfl, ?_⟩) (by assumption) ?_
      rotate_left
      · (intro w hSw; (try dsimp only at hSw); go_simp; try with_reducible rfl)
      simp only [Act.put, List.setIfInBounds_toArray, List.set_cons_zero, List.set_cons_succ]
      refine wpAnyH_take (i := 1) (oi := { dst := some 42, op := Op.load 22 (Operand.tmp 41), type := 22, pos := "more.go:45", after := _, guard := none }) (v := ?_) rfl (by kernel_rfl) (by kernel_rfl) (by kernel_rfl) (fun _ _ _ h => h) (Or.inl ⟨by rfl, ?_⟩) (by assumption) ?_
      rotate_left
      · (intro W hSw; (try dsimp only at hSw); have hs0S := hSw; have c0_0 : W.cell? ⟨v9.heap.size, 0, none⟩ = some (.bool false) := (BoxAt.cell hs0S 0).trans rfl; have c0_1 : W.cell? ⟨v9.heap.size, 1, none⟩ = some (.slice (some ⟨G1, 0, none⟩) M xc) := (BoxAt.cell hs0S 1).trans rfl; clear hs0S; go_simp; try with_reducible rfl)
      simp only [Act.put, List.setIfInBounds_toArray, List.set_cons_zero, List.set_cons_succ]
      refine wpAnyH_take (i := 2) (oi := { dst := some 43, op := Op.fieldAddr 24 (Operand.tmp 7) 1, type := 0, pos := "more.go:45", after := _, guard := none }) (v := ?_) rfl (by kernel_rfl) (by kernel_rfl) (by kernel_rfl) (fun _ _ _ h => h) (Or.inl ⟨by rfl, ?_⟩) (by assumption) ?_
      rotate_left
      · (intro w hSw; (try dsimp only at hSw); go_simp; try with_reducible rfl)
      simp only [Act.put, List.setIfInBounds_toArray, List.set_cons_zero, List.set_cons_succ]
      refine wpAnyH_take (i := 3) (oi := { dst := some 44, op := Op.load 22 (Operand.tmp 43), type := 22, pos := "more.go:45", after := _, guard := none }) (v := ?_) rfl (by kernel_rfl) (by kernel_rfl) (by kernel_rfl) (fun _ _ _ h => h) (Or.inl ⟨by rfl, ?_⟩) (by assumption) ?_
      rotate_left
      · (intro W hSw; (try dsimp only at hSw); have hs0S := hSw; have c0_0 : W.cell? ⟨v9.heap.size, 0, none⟩ = some (.bool false) := (BoxAt.cell hs0S 0).trans rfl; have c0_1 : W.cell? ⟨v9.heap.size, 1, none⟩ = some (.slice (some ⟨G1, 0, none⟩) M xc) := (BoxAt.cell hs0S 1).trans rfl; clear hs0S; go_simp; try with_reducible rfl)
      simp only [Act.put, List.setIfInBounds_toArray, List.set_cons_zero, List.set_cons_succ]
      refine wpAnyH_take (i := 4) (oi := { dst := some 45, op := Op.indexAddr 22 (Operand.tmp 44) (Operand.const (Value.int IntKind.i64 0)), type := 0, pos := "more.go:45", after := _, guard := none }) (v := ?_) rfl (by kernel_rfl) (by kernel_rfl) (by kernel_rfl) (fun _ _ _ h => h) (Or.inl ⟨by rfl, ?_⟩) (by assumption) ?_
      rotate_left
      · (intro w hSw; (try dsimp only at hSw); go_simp; try with_reducible rfl)
      simp only [Act.put, List.setIfInBounds_toArray, List.set_cons_zero, List.set_cons_succ]
      refine wpAnyH_take (i := 5) (oi := { dst := some 46, op := Op.fieldAddr 26 (Operand.tmp 45) 2, type := 0, pos := "more.go:45", after := _, guard := none }) (v := ?_) rfl (by kernel_rfl) (by kernel_rfl) (by kernel_rfl) (fun _ _ _ h => h) (Or.inl ⟨by rfl, ?_⟩) (by assumption) ?_
      rotate_left
      · (intro w hSw; (try dsimp only at hSw); go_simp; try with_reducible rfl)
      simp only [Act.put, List.setIfInBounds_toArray, List.set_cons_zero, List.set_cons_succ]
      refine wpAnyH_ready (rs := [6]) (by kernel_rfl) (by simp) (AllReadyH.cons (o := { dst := some 47, op := Op.load 3 (Operand.tmp 46), type := 3, pos := "more.go:45", after := _, guard := none }) rfl (fun K1007 hK1007 => ?_) AllReadyH.nil)
      have cG : v15.cell? ⟨G1, 2, none⟩ = some (.int .i64 VX) := (by have h := OWt.at HX.out 0 2 hun1 (by decide); rw [Nat.zero_mul, Nat.zero_add] at h; rw [h]; exact congrArg (fun v => some (Value.int .i64 v)) HVVX.out)
      go_simp
      clear cG
      refine hK1007.out _ _ (XB.out) (fun hHeld1007 => ?_)
      clear hK1007 K1007
      try simp only [Act.put, List.setIfInBounds_toArray, List.set_cons_zero, List.set_cons_succ]
      refine wpAnyH_take (i := 7) (oi := { dst := some 48, op := Op.binOp BinOp.add 3 (Operand.tmp 47) (Operand.const (Value.int IntKind.i64 1)) 3, type := 3, pos := "more.go:45", after := _, guard := none }) (v := ?_) rfl (by kernel_rfl) (by kernel_rfl) (by kernel_rfl) (fun _ _ _ h => h) (Or.inl ⟨by rfl, ?_⟩) (by assumption) ?_
      rotate_left
      · (intro W hSw; (try dsimp only at hSw); have hs0S := hSw; clear hs0S; go_simp; try with_reducible rfl)
      simp only [Act.put, List.setIfInBounds_toArray, List.set_cons_zero, List.set_cons_succ]
      refine wpAnyH_take (i := 8) (oi := { dst := some 49, op := Op.indexAddr 22 (Operand.tmp 42) (Operand.const (Value.int IntKind.i64 0)), type := 0, pos := "more.go:45", after := _, guard := none }) (v := ?_) rfl (by kernel_rfl) (by kernel_rfl) (by kernel_rfl) (fun _ _ _ h => h) (Or.inl ⟨by rfl, ?_⟩) (by assumption) ?_
      rotate_left
      · (intro w hSw; (try dsimp only at hSw); go_simp; try with_reducible rfl)
      simp only [Act.put, List.setIfInBounds_toArray, List.set_cons_zero, List.set_cons_succ]
      refine wpAnyH_take (i := 9) (oi := { dst := some 50, op := Op.fieldAddr 26 (Operand.tmp 49) 2, type := 0, pos := "more.go:45", after := _, guard := none }) (v := ?_) rfl (by kernel_rfl) (by kernel_rfl) (by kernel_rfl) (fun _ _ _ h => h) (Or.inl ⟨by rfl, ?_⟩) (by assumption) ?_
      rotate_left
      · (intro w hSw; (try dsimp only at hSw); go_simp; try with_reducible rfl)
      simp only [Act.put, List.setIfInBounds_toArray, List.set_cons_zero, List.set_cons_succ]
      refine wpAnyH_ready (rs := [10]) (by kernel_rfl) (by simp) (AllReadyH.cons (o := { dst := none, op := Op.store 3 (Operand.tmp 50) (Operand.tmp 48), type := 0, pos := "more.go:45", after := _, guard := none }) rfl (fun K1011 hK1011 => ?_) AllReadyH.nil)
      refine step_set_Wt rfl 3 _ _ rfl _ G1 _ _ X1 HX.out 0 2 hun1 (by decide) 2 rfl rfl _ rfl rfl rfl (by kernel_rfl) ?_
      intro v16 g z
      have hsv16 : v15.heap.size ≤ v16.heap.size := by omega
      have PB := hid (PB.out.grown g (fun e => by have := Option.some.inj e; omega))
      have WB := hid (WB.out.grown g (fun e => by have := Option.some.inj e; omega))
      have SB := hid (SB.out.grown g (fun e => by have := Option.some.inj e; omega))
      have XB := hid (XB.out.grown g (fun e => by have := Option.some.inj e; omega))
      have YB := hid (YB.out.grown g (fun e => by have := Option.some.inj e; omega))
      have HWL := hid (HWL.out.apart g (fun k hk => by have := HWLB.out k hk; omega))
      have HY := hid (HY.out.apart g (fun k hk => by have := HYB.out k hk; omega))
      have HB := hid (HB.out.trans (grown_below g (by omega) (by omega)))
      clear g z
      refine hK1011.out _ _ (XB.out) (fun hHeld1011 => ?_)
      clear hK1011 K1011
      try simp only [Act.put]
      refine wpAnyH_done (by kernel_rfl) ?_ _
      clear hHeld hHeld1007 hHeld1011
      have kPB1 : v16.cell? ⟨w.heap.size, 1, none⟩ = some (.slice sa M sc) := (BoxAt.cell PB.out 1).trans rfl
      have kXB1 : v16.cell? ⟨v9.heap.size, 1, none⟩ = some (.slice (some ⟨G1, 0, none⟩) M xc) := (BoxAt.cell XB.out 1).trans rfl
      have kYB1 : v16.cell? ⟨v12.heap.size, 1, none⟩ = some (.slice ya yn yc) := (BoxAt.cell YB.out 1).trans rfl
      clear HX
      by_cases h1 : 0 < yn
      · have hun2 : 0 < Y1.length := by have : yn = Y1.length := HYN.out; omega
        obtain ⟨G2, cap2, hgv2, -⟩ := owns_formQ HY.out hun2
        simp only [Sl.val, Value.slice.injEq] at hgv2
        obtain ⟨rfl, -, -⟩ := hgv2
        obtain ⟨hG12, hG22⟩ := HYL.out G2 rfl
        obtain ⟨VY, hV2⟩ : ∃ V, (Y1.getD 0 Wt.zero).v = V := ⟨_, rfl⟩
        have HVVY := hid hV2
        have hz2 : (0 : Int) < (yn : Int) := by omega
        clear hV2
        go_wp2_with fail
        clear kPB1 kXB1 kYB1
        have PB := hid (BoxAt.drew PB.out)
        have WB := hid (BoxAt.drew WB.out)
        have SB := hid (BoxAt.drew SB.out)
        have XB := hid (BoxAt.drew XB.out)
        have YB := hid (BoxAt.drew YB.out)
        have HWL := hid (HWL.out.below ((Below.refl v16.heap.size v16).drew))
        have HY := hid (HY.out.below ((Below.refl v16.heap.size v16).drew))
        have HB := hid (HB.out.drew)
        have hsv17 : v16.heap.size ≤ v16.drew.heap.size := Nat.le_refl _
        refine wp_region_held_drew (S := (fun w' : World => BoxAt w' (v12.heap.size) 24 #[.bool k, .slice (some ⟨G2, 0, none⟩) yn yc])) (by kernel_rfl) (YB.out) (fun hHeld => ?_)
        generalize v16.drew = v17 at *
        refine wpAnyH_take (i := 0) (oi := { dst := some 55, op := Op.fieldAddr 24 (Operand.tmp 8) 1, type := 0, pos := "more.go:48", after := _, guard := none }) (v := ?_) rfl (by kernel_rfl) (by kernel_rfl) (by kernel_rfl) (fun _ _ _ h => h) (Or.inl ⟨by rfl, ?_⟩) (by assumption) ?_
        rotate_left
        · (intro w hSw; (try dsimp only at hSw); go_simp; try with_reducible rfl)
        simp only [Act.put, List.setIfInBounds_toArray, List.set_cons_zero, List.set_cons_succ]
        refine wpAnyH_take (i := 1) (oi := { dst := some 56, op := Op.load 22 (Operand.tmp 55), type := 22, pos := "more.go:48", after := _, guard := none }) (v := ?_) rfl (by kernel_rfl) (by kernel_rfl) (by kernel_rfl) (fun _ _ _ h => h) (Or.inl ⟨by rfl, ?_⟩) (by assumption) ?_
        rotate_left
        · (intro W hSw; (try dsimp only at hSw); have hs0S := hSw; have c0_0 : W.cell? ⟨v12.heap.size, 0, none⟩ = some (.bool k) := (BoxAt.cell hs0S 0).trans rfl; have c0_1 : W.cell? ⟨v12.heap.size, 1, none⟩ = some (.slice (some ⟨G2, 0, none⟩) yn yc) := (BoxAt.cell hs0S 1).trans rfl; clear hs0S; go_simp; try with_reducible rfl)
        simp only [Act.put, List.setIfInBounds_toArray, List.set_cons_zero, List.set_cons_succ]
        refine wpAnyH_take (i := 2) (oi := { dst := some 57, op := Op.fieldAddr 24 (Operand.tmp 8) 1, type := 0, pos := "more.go:48", after := _, guard := none }) (v := ?_) rfl (by kernel_rfl) (by kernel_rfl) (by kernel_rfl) (fun _ _ _ h => h) (Or.inl ⟨by rfl, ?_⟩) (by assumption) ?_
        rotate_left
        · (intro w hSw; (try dsimp only at hSw); go_simp; try with_reducible rfl)
        simp only [Act.put, List.setIfInBounds_toArray, List.set_cons_zero, List.set_cons_succ]
        refine wpAnyH_take (i := 3) (oi := { dst := some 58, op := Op.load 22 (Operand.tmp 57), type := 22, pos := "more.go:48", after := _, guard := none }) (v := ?_) rfl (by kernel_rfl) (by kernel_rfl) (by kernel_rfl) (fun _ _ _ h => h) (Or.inl ⟨by rfl, ?_⟩) (by assumption) ?_
        rotate_left
        · (intro W hSw; (try dsimp only at hSw); have hs0S := hSw; have c0_0 : W.cell? ⟨v12.heap.size, 0, none⟩ = some (.bool k) := (BoxAt.cell hs0S 0).trans rfl; have c0_1 : W.cell? ⟨v12.heap.size, 1, none⟩ = some (.slice (some ⟨G2, 0, none⟩) yn yc) := (BoxAt.cell hs0S 1).trans rfl; clear hs0S; go_simp; try with_reducible rfl)
        simp only [Act.put, List.setIfInBounds_toArray, List.set_cons_zero, List.set_cons_succ]
        refine wpAnyH_take (i := 4) (oi := { dst := some 59, op := Op.indexAddr 22 (Operand.tmp 58) (Operand.const (Value.int IntKind.i64 0)), type := 0, pos := "more.go:48", after := _, guard := none }) (v := ?_) rfl (by kernel_rfl) (by kernel_rfl) (by kernel_rfl) (fun _ _ _ h => h) (Or.inl ⟨by rfl, ?_⟩) (by assumption) ?_
        rotate_left
        · (intro w hSw; (try dsimp only at hSw); go_simp; try with_reducible rfl)
        simp only [Act.put, List.setIfInBounds_toArray, List.set_cons_zero, List.set_cons_succ]
        refine wpAnyH_take (i := 5) (oi := { dst := some 60, op := Op.fieldAddr 26 (Operand.tmp 59) 2, type := 0, pos := "more.go:48", after := _, guard := none }) (v := ?_) rfl (by kernel_rfl) (by kernel_rfl) (by kernel_rfl) (fun _ _ _ h => h) (Or.inl ⟨by rfl, ?_⟩) (by assumption) ?_
        rotate_left
        · (intro w hSw; (try dsimp only at hSw); go_simp; try with_reducible rfl)
        simp only [Act.put, List.setIfInBounds_toArray, List.set_cons_zero, List.set_cons_succ]
        refine wpAnyH_ready (rs := [6]) (by kernel_rfl) (by simp) (AllReadyH.cons (o := { dst := some 61, op := Op.load 3 (Operand.tmp 60), type := 3, pos := "more.go:48", after := _, guard := none }) rfl (fun K1007 hK1007 => ?_) AllReadyH.nil)
        have cG : v17.cell? ⟨G2, 2, none⟩ = some (.int .i64 VY) := (by have h := OWt.at HY.out 0 2 hun2 (by decide); rw [Nat.zero_mul, Nat.zero_add] at h; rw [h]; exact congrArg (fun v => some (Value.int .i64 v)) HVVY.out)
        go_simp
        clear cG
        refine hK1007.out _ _ (YB.out) (fun hHeld1007 => ?_)
        clear hK1007 K1007
        try simp only [Act.put, List.setIfInBounds_toArray, List.set_cons_zero, List.set_cons_succ]
        refine wpAnyH_take (i := 7) (oi := { dst := some 62, op := Op.binOp BinOp.add 3 (Operand.tmp 61) (Operand.const (Value.int IntKind.i64 1)) 3, type := 3, pos := "more.go:48", after := _, guard := none }) (v := ?_) rfl (by kernel_rfl) (by kernel_rfl) (by kernel_rfl) (fun _ _ _ h => h) (Or.inl ⟨by rfl, ?_⟩) (by assumption) ?_
        rotate_left
        · (intro W hSw; (try dsimp only at hSw); have hs0S := hSw; clear hs0S; go_simp; try with_reducible rfl)
        simp only [Act.put, List.setIfInBounds_toArray, List.set_cons_zero, List.set_cons_succ]
        refine wpAnyH_take (i := 8) (oi := { dst := some 63, op := Op.indexAddr 22 (Operand.tmp 56) (Operand.const (Value.int IntKind.i64 0)), type := 0, pos := "more.go:48", after := _, guard := none }) (v := ?_) rfl (by kernel_rfl) (by kernel_rfl) (by kernel_rfl) (fun _ _ _ h => h) (Or.inl ⟨by rfl, ?_⟩) (by assumption) ?_
        rotate_left
        · (intro w hSw; (try dsimp only at hSw); go_simp; try with_reducible rfl)
        simp only [Act.put, List.setIfInBounds_toArray, List.set_cons_zero, List.set_cons_succ]
        refine wpAnyH_take (i := 9) (oi := { dst := some 64, op := Op.fieldAddr 26 (Operand.tmp 63) 2, type := 0, pos := "more.go:48", after := _, guard := none }) (v := ?_) rfl (by kernel_rfl) (by kernel_rfl) (by kernel_rfl) (fun _ _ _ h => h) (Or.inl ⟨by rfl, ?_⟩) (by assumption) ?_
        rotate_left
        · (intro w hSw; (try dsimp only at hSw); go_simp; try with_reducible rfl)
        simp only [Act.put, List.setIfInBounds_toArray, List.set_cons_zero, List.set_cons_succ]
        refine wpAnyH_ready (rs := [10]) (by kernel_rfl) (by simp) (AllReadyH.cons (o := { dst := none, op := Op.store 3 (Operand.tmp 64) (Operand.tmp 62), type := 0, pos := "more.go:48", after := _, guard := none }) rfl (fun K1011 hK1011 => ?_) AllReadyH.nil)
        refine step_set_Wt rfl 3 _ _ rfl _ G2 _ _ Y1 HY.out 0 2 hun2 (by decide) 2 rfl rfl _ rfl rfl rfl (by kernel_rfl) ?_
        intro v18 g z
        have hsv18 : v17.heap.size ≤ v18.heap.size := by omega
        have PB := hid (PB.out.grown g (fun e => by have := Option.some.inj e; omega))
        have WB := hid (WB.out.grown g (fun e => by have := Option.some.inj e; omega))
        have SB := hid (SB.out.grown g (fun e => by have := Option.some.inj e; omega))
        have XB := hid (XB.out.grown g (fun e => by have := Option.some.inj e; omega))
        have YB := hid (YB.out.grown g (fun e => by have := Option.some.inj e; omega))
        have HWL := hid (HWL.out.apart g (fun k hk => by have := HWLB.out k hk; omega))
        have HB := hid (HB.out.trans (grown_below g (by omega) (by omega)))
        clear g z
        refine hK1011.out _ _ (YB.out) (fun hHeld1011 => ?_)
        clear hK1011 K1011
        try simp only [Act.put]
        refine wpAnyH_done (by kernel_rfl) ?_ _
        clear hHeld hHeld1007 hHeld1011
        have kPB1 : v18.cell? ⟨w.heap.size, 1, none⟩ = some (.slice sa M sc) := (BoxAt.cell PB.out 1).trans rfl
        have kXB1 : v18.cell? ⟨v9.heap.size, 1, none⟩ = some (.slice (some ⟨G1, 0, none⟩) M xc) := (BoxAt.cell XB.out 1).trans rfl
        have kYB1 : v18.cell? ⟨v12.heap.size, 1, none⟩ = some (.slice (some ⟨G2, 0, none⟩) yn yc) := (BoxAt.cell YB.out 1).trans rfl
        clear HY
        go_wp2_with (first
          | (refine wpList_load_box rfl 24 _ rfl (w.heap.size) rfl _ _ PB.out _ Try.underlying24 Try.infoEv ?_)
          | (refine wpList_load_box rfl 24 _ rfl (v5.heap.size) rfl _ _ SB.out _ Try.underlying24 Try.infoEv ?_)
          | fail)
        refine (rsame_any k (s := ⟨sa, M, sc⟩) (r := qv5) (HV.out.below HB.out) HWL.out.sees).mono ?_
        rintro e v19 ⟨rfl, hb⟩
        have PB := hid (PB.out.belowAll hb)
        have WB := hid (WB.out.belowAll hb)
        have SB := hid (SB.out.belowAll hb)
        have XB := hid (XB.out.belowAll hb)
        have YB := hid (YB.out.belowAll hb)
        have HB := hid (HB.out.trans (hb.mono HB.out.size))
        have hsv19 : v18.heap.size ≤ v19.heap.size := by first | exact hb.size | omega
        clear kPB1 kXB1 kYB1
        have kPB1 : v19.cell? ⟨w.heap.size, 1, none⟩ = some (.slice sa M sc) := (BoxAt.cell PB.out 1).trans rfl
        have kXB1 : v19.cell? ⟨v9.heap.size, 1, none⟩ = some (.slice (some ⟨G1, 0, none⟩) M xc) := (BoxAt.cell XB.out 1).trans rfl
        have kYB1 : v19.cell? ⟨v12.heap.size, 1, none⟩ = some (.slice (some ⟨G2, 0, none⟩) yn yc) := (BoxAt.cell YB.out 1).trans rfl
        clear hb
        clear kPB1 kXB1 kYB1
        have kPB1 : v19.cell? ⟨w.heap.size, 1, none⟩ = some (.slice sa M sc) := (BoxAt.cell PB.out 1).trans rfl
        have kXB1 : v19.cell? ⟨v9.heap.size, 1, none⟩ = some (.slice (some ⟨G1, 0, none⟩) M xc) := (BoxAt.cell XB.out 1).trans rfl
        have kYB1 : v19.cell? ⟨v12.heap.size, 1, none⟩ = some (.slice (some ⟨G2, 0, none⟩) yn yc) := (BoxAt.cell YB.out 1).trans rfl
        go_wp2
        go_ret
        exact ⟨rfl, HB.out⟩
      · have hz2 : ¬ (0 : Int) < (yn : Int) := by omega
        go_wp2_with (first
          | (refine wpList_load_box rfl 24 _ rfl (w.heap.size) rfl _ _ PB.out _ Try.underlying24 Try.infoEv ?_)
          | (refine wpList_load_box rfl 24 _ rfl (v5.heap.size) rfl _ _ SB.out _ Try.underlying24 Try.infoEv ?_)
          | fail)
        refine (rsame_any k (s := ⟨sa, M, sc⟩) (r := qv5) (HV.out.below HB.out) HWL.out.sees).mono ?_
        rintro e v17 ⟨rfl, hb⟩
        have PB := hid (PB.out.belowAll hb)
        have WB := hid (WB.out.belowAll hb)
        have SB := hid (SB.out.belowAll hb)
        have XB := hid (XB.out.belowAll hb)
        have YB := hid (YB.out.belowAll hb)
        have HB := hid (HB.out.trans (hb.mono HB.out.size))
        have hsv17 : v16.heap.size ≤ v17.heap.size := by first | exact hb.size | omega
        clear kPB1 kXB1 kYB1
        have kPB1 : v17.cell? ⟨w.heap.size, 1, none⟩ = some (.slice sa M sc) := (BoxAt.cell PB.out 1).trans rfl
        have kXB1 : v17.cell? ⟨v9.heap.size, 1, none⟩ = some (.slice (some ⟨G1, 0, none⟩) M xc) := (BoxAt.cell XB.out 1).trans rfl
        have kYB1 : v17.cell? ⟨v12.heap.size, 1, none⟩ = some (.slice ya yn yc) := (BoxAt.cell YB.out 1).trans rfl
        clear hb
        clear kPB1 kXB1 kYB1
        have kPB1 : v17.cell? ⟨w.heap.size, 1, none⟩ = some (.slice sa M sc) := (BoxAt.cell PB.out 1).trans rfl
        have kXB1 : v17.cell? ⟨v9.heap.size, 1, none⟩ = some (.slice (some ⟨G1, 0, none⟩) M xc) := (BoxAt.cell XB.out 1).trans rfl
        have kYB1 : v17.cell? ⟨v12.heap.size, 1, none⟩ = some (.slice ya yn yc) := (BoxAt.cell YB.out 1).trans rfl
        go_wp2
        go_ret
        exact ⟨rfl, HB.out⟩
    · have hz1 : ¬ (0 : Int) < (M : Int) := by omega
      clear HX
      by_cases h1 : 0 < yn
      · have hun2 : 0 < Y1.length := by have : yn = Y1.length := HYN.out; omega
        obtain ⟨G2, cap2, hgv2, -⟩ := owns_formQ HY.out hun2
        simp only [Sl.val, Value.slice.injEq] at hgv2
        obtain ⟨rfl, -, -⟩ := hgv2
        obtain ⟨hG12, hG22⟩ := HYL.out G2 rfl
        obtain ⟨VY, hV2⟩ : ∃ V, (Y1.getD 0 Wt.zero).v = V := ⟨_, rfl⟩
        have HVVY := hid hV2
        have hz2 : (0 : Int) < (yn : Int) := by omega
        clear hV2
        go_wp2_with fail
        clear kPB1 kXB1 kYB1
        have PB := hid (BoxAt.drew PB.out)
        have WB := hid (BoxAt.drew WB.out)
        have SB := hid (BoxAt.drew SB.out)
        have XB := hid (BoxAt.drew XB.out)
        have YB := hid (BoxAt.drew YB.out)
        have HWL := hid (HWL.out.below ((Below.refl v14.heap.size v14).drew))
        have HY := hid (HY.out.below ((Below.refl v14.heap.size v14).drew))
        have HB := hid (HB.out.drew)
        have hsv15 : v14.heap.size ≤ v14.drew.heap.size := Nat.le_refl _
        refine wp_region_held_drew (S := (fun w' : World => BoxAt w' (v12.heap.size) 24 #[.bool k, .slice (some ⟨G2, 0, none⟩) yn yc])) (by kernel_rfl) (YB.out) (fun hHeld => ?_)
        generalize v14.drew = v15 at *
        refine wpAnyH_take (i := 0) (oi := { dst := some 55, op := Op.fieldAddr 24 (Operand.tmp 8) 1, type := 0, pos := "more.go:48", after := _, guard := none }) (v := ?_) rfl (by kernel_rfl) (by kernel_rfl) (by kernel_rfl) (fun _ _ _ h => h) (Or.inl ⟨by rfl, ?_⟩) (by assumption) ?_
        rotate_left
        · (intro w hSw; (try dsimp only at hSw); go_simp; try with_reducible rfl)
        simp only [Act.put, List.setIfInBounds_toArray, List.set_cons_zero, List.set_cons_succ]
        refine wpAnyH_take (i := 1) (oi := { dst := some 56, op := Op.load 22 (Operand.tmp 55), type := 22, pos := "more.go:48", after := _, guard := none }) (v := ?_) rfl (by kernel_rfl) (by kernel_rfl) (by kernel_rfl) (fun _ _ _ h => h) (Or.inl ⟨by rfl, ?_⟩) (by assumption) ?_
        rotate_left
        · (intro W hSw; (try dsimp only at hSw); have hs0S := hSw; have c0_0 : W.cell? ⟨v12.heap.size, 0, none⟩ = some (.bool k) := (BoxAt.cell hs0S 0).trans rfl; have c0_1 : W.cell? ⟨v12.heap.size, 1, none⟩ = some (.slice (some ⟨G2, 0, none⟩) yn yc) := (BoxAt.cell hs0S 1).trans rfl; clear hs0S; go_simp; try with_reducible rfl)
        simp only [Act.put, List.setIfInBounds_toArray, List.set_cons_zero, List.set_cons_succ]
        refine wpAnyH_take (i := 2) (oi := { dst := some 57, op := Op.fieldAddr 24 (Operand.tmp 8) 1, type := 0, pos := "more.go:48", after := _, guard := none }) (v := ?_) rfl (by kernel_rfl) (by kernel_rfl) (by kernel_rfl) (fun _ _ _ h => h) (Or.inl ⟨by rfl, ?_⟩) (by assumption) ?_
        rotate_left
        · (intro w hSw; (try dsimp only at hSw); go_simp; try with_reducible rfl)
        simp only [Act.put, List.setIfInBounds_toArray, List.set_cons_zero, List.set_cons_succ]
        refine wpAnyH_take (i := 3) (oi := { dst := some 58, op := Op.load 22 (Operand.tmp 57), type := 22, pos := "more.go:48", after := _, guard := none }) (v := ?_) rfl (by kernel_rfl) (by kernel_rfl) (by kernel_rfl) (fun _ _ _ h => h) (Or.inl ⟨by rfl, ?_⟩) (by assumption) ?_
        rotate_left
        · (intro W hSw; (try dsimp only at hSw); have hs0S := hSw; have c0_0 : W.cell? ⟨v12.heap.size, 0, none⟩ = some (.bool k) := (BoxAt.cell hs0S 0).trans rfl; have c0_1 : W.cell? ⟨v12.heap.size, 1, none⟩ = some (.slice (some ⟨G2, 0, none⟩) yn yc) := (BoxAt.cell hs0S 1).trans rfl; clear hs0S; go_simp; try with_reducible rfl)
        simp only [Act.put, List.setIfInBounds_toArray, List.set_cons_zero, List.set_cons_succ]
        refine wpAnyH_take (i := 4) (oi := { dst := some 59, op := Op.indexAddr 22 (Operand.tmp 58) (Operand.const (Value.int IntKind.i64 0)), type := 0, pos := "more.go:48", after := _, guard := none }) (v := ?_) rfl (by kernel_rfl) (by kernel_rfl) (by kernel_rfl) (fun _ _ _ h => h) (Or.inl ⟨by rfl, ?_⟩) (by assumption) ?_
        rotate_left
        · (intro w hSw; (try dsimp only at hSw); go_simp; try with_reducible rfl)
        simp only [Act.put, List.setIfInBounds_toArray, List.set_cons_zero, List.set_cons_succ]
        refine wpAnyH_take (i := 5) (oi := { dst := some 60, op := Op.fieldAddr 26 (Operand.tmp 59) 2, type := 0, pos := "more.go:48", after := _, guard := none }) (v := ?_) rfl (by kernel_rfl) (by kernel_rfl) (by kernel_rfl) (fun _ _ _ h => h) (Or.inl ⟨by rfl, ?_⟩) (by assumption) ?_
        rotate_left
        · (intro w hSw; (try dsimp only at hSw); go_simp; try with_reducible rfl)
        simp only [Act.put, List.setIfInBounds_toArray, List.set_cons_zero, List.set_cons_succ]
        refine wpAnyH_ready (rs := [6]) (by kernel_rfl) (by simp) (AllReadyH.cons (o := { dst := some 61, op := Op.load 3 (Operand.tmp 60), type := 3, pos := "more.go:48", after := _, guard := none }) rfl (fun K3007 hK3007 => ?_) AllReadyH.nil)
        have cG : v15.cell? ⟨G2, 2, none⟩ = some (.int .i64 VY) := (by have h := OWt.at HY.out 0 2 hun2 (by decide); rw [Nat.zero_mul, Nat.zero_add] at h; rw [h]; exact congrArg (fun v => some (Value.int .i64 v)) HVVY.out)
        go_simp
        clear cG
        refine hK3007.out _ _ (YB.out) (fun hHeld3007 => ?_)
        clear hK3007 K3007
        try simp only [Act.put, List.setIfInBounds_toArray, List.set_cons_zero, List.set_cons_succ]
        refine wpAnyH_take (i := 7) (oi := { dst := some 62, op := Op.binOp BinOp.add 3 (Operand.tmp 61) (Operand.const (Value.int IntKind.i64 1)) 3, type := 3, pos := "more.go:48", after := _, guard := none }) (v := ?_) rfl (by kernel_rfl) (by kernel_rfl) (by kernel_rfl) (fun _ _ _ h => h) (Or.inl ⟨by rfl, ?_⟩) (by assumption) ?_
        rotate_left
        · (intro W hSw; (try dsimp only at hSw); have hs0S := hSw; clear hs0S; go_simp; try with_reducible rfl)
        simp only [Act.put, List.setIfInBounds_toArray, List.set_cons_zero, List.set_cons_succ]
        refine wpAnyH_take (i := 8) (oi := { dst := some 63, op := Op.indexAddr 22 (Operand.tmp 56) (Operand.const (Value.int IntKind.i64 0)), type := 0, pos := "more.go:48", after := _, guard := none }) (v := ?_) rfl (by kernel_rfl) (by kernel_rfl) (by kernel_rfl) (fun _ _ _ h => h) (Or.inl ⟨by rfl, ?_⟩) (by assumption) ?_
        rotate_left
        · (intro w hSw; (try dsimp only at hSw); go_simp; try with_reducible rfl)
        simp only [Act.put, List.setIfInBounds_toArray, List.set_cons_zero, List.set_cons_succ]
        refine wpAnyH_take (i := 9) (oi := { dst := some 64, op := Op.fieldAddr 26 (Operand.tmp 63) 2, type := 0, pos := "more.go:48", after := _, guard := none }) (v := ?_) rfl (by kernel_rfl) (by kernel_rfl) (by kernel_rfl) (fun _ _ _ h => h) (Or.inl ⟨by rfl, ?_⟩) (by assumption) ?_
        rotate_left
        · (intro w hSw; (try dsimp only at hSw); go_simp; try with_reducible rfl)
        simp only [Act.put, List.setIfInBounds_toArray, List.set_cons_zero, List.set_cons_succ]
        refine wpAnyH_ready (rs := [10]) (by kernel_rfl) (by simp) (AllReadyH.cons (o := { dst := none, op := Op.store 3 (Operand.tmp 64) (Operand.tmp 62), type := 0, pos := "more.go:48", after := _, guard := none }) rfl (fun K3011 hK3011 => ?_) AllReadyH.nil)
        refine step_set_Wt rfl 3 _ _ rfl _ G2 _ _ Y1 HY.out 0 2 hun2 (by decide) 2 rfl rfl _ rfl rfl rfl (by kernel_rfl) ?_
        intro v16 g z
        have hsv16 : v15.heap.size ≤ v16.heap.size := by omega
        have PB := hid (PB.out.grown g (fun e => by have := Option.some.inj e; omega))
        have WB := hid (WB.out.grown g (fun e => by have := Option.some.inj e; omega))
        have SB := hid (SB.out.grown g (fun e => by have := Option.some.inj e; omega))
        have XB := hid (XB.out.grown g (fun e => by have := Option.some.inj e; omega))
        have YB := hid (YB.out.grown g (fun e => by have := Option.some.inj e; omega))
        have HWL := hid (HWL.out.apart g (fun k hk => by have := HWLB.out k hk; omega))
        have HB := hid (HB.out.trans (grown_below g (by omega) (by omega)))
        clear g z
        refine hK3011.out _ _ (YB.out) (fun hHeld3011 => ?_)
        clear hK3011 K3011
        try simp only [Act.put]
        refine wpAnyH_done (by kernel_rfl) ?_ _
        clear hHeld hHeld3007 hHeld3011
        have kPB1 : v16.cell? ⟨w.heap.size, 1, none⟩ = some (.slice sa M sc) := (BoxAt.cell PB.out 1).trans rfl
        have kXB1 : v16.cell? ⟨v9.heap.size, 1, none⟩ = some (.slice xa M xc) := (BoxAt.cell XB.out 1).trans rfl
        have kYB1 : v16.cell? ⟨v12.heap.size, 1, none⟩ = some (.slice (some ⟨G2, 0, none⟩) yn yc) := (BoxAt.cell YB.out 1).trans rfl
        clear HY
        go_wp2_with (first
          | (refine wpList_load_box rfl 24 _ rfl (w.heap.size) rfl _ _ PB.out _ Try.underlying24 Try.infoEv ?_)
          | (refine wpList_load_box rfl 24 _ rfl (v5.heap.size) rfl _ _ SB.out _ Try.underlying24 Try.infoEv ?_)
          | fail)
        refine (rsame_any k (s := ⟨sa, M, sc⟩) (r := qv5) (HV.out.below HB.out) HWL.out.sees).mono ?_
        rintro e v17 ⟨rfl, hb⟩
        have PB := hid (PB.out.belowAll hb)
        have WB := hid (WB.out.belowAll hb)
        have SB := hid (SB.out.belowAll hb)
        have XB := hid (XB.out.belowAll hb)
        have YB := hid (YB.out.belowAll hb)
        have HB := hid (HB.out.trans (hb.mono HB.out.size))
        have hsv17 : v16.heap.size ≤ v17.heap.size := by first | exact hb.size | omega
        clear kPB1 kXB1 kYB1
        have kPB1 : v17.cell? ⟨w.heap.size, 1, none⟩ = some (.slice sa M sc) := (BoxAt.cell PB.out 1).trans rfl
        have kXB1 : v17.cell? ⟨v9.heap.size, 1, none⟩ = some (.slice xa M xc) := (BoxAt.cell XB.out 1).trans rfl
        have kYB1 : v17.cell? ⟨v12.heap.size, 1, none⟩ = some (.slice (some ⟨G2, 0, none⟩) yn yc) := (BoxAt.cell YB.out 1).trans rfl
        clear hb
        clear kPB1 kXB1 kYB1
        have kPB1 : v17.cell? ⟨w.heap.size, 1, none⟩ = some (.slice sa M sc) := (BoxAt.cell PB.out 1).trans rfl
        have kXB1 : v17.cell? ⟨v9.heap.size, 1, none⟩ = some (.slice xa M xc) := (BoxAt.cell XB.out 1).trans rfl
        have kYB1 : v17.cell? ⟨v12.heap.size, 1, none⟩ = some (.slice (some ⟨G2, 0, none⟩) yn yc) := (BoxAt.cell YB.out 1).trans rfl
        go_wp2
        go_ret
        exact ⟨rfl, HB.out⟩
      · have hz2 : ¬ (0 : Int) < (yn : Int) := by omega
        go_wp2_with (first
          | (refine wpList_load_box rfl 24 _ rfl (w.heap.size) rfl _ _ PB.out _ Try.underlying24 Try.infoEv ?_)
          | (refine wpList_load_box rfl 24 _ rfl (v5.heap.size) rfl _ _ SB.out _ Try.underlying24 Try.infoEv ?_)
          | fail)
        refine (rsame_any k (s := ⟨sa, M, sc⟩) (r := qv5) (HV.out.below HB.out) HWL.out.sees).mono ?_
        rintro e v15 ⟨rfl, hb⟩
        have PB := hid (PB.out.belowAll hb)
        have WB := hid (WB.out.belowAll hb)
        have SB := hid (SB.out.belowAll hb)
        have XB := hid (XB.out.belowAll hb)
        have YB := hid (YB.out.belowAll hb)
        have HB := hid (HB.out.trans (hb.mono HB.out.size))
        have hsv15 : v14.heap.size ≤ v15.heap.size := by first | exact hb.size | omega
        clear kPB1 kXB1 kYB1
        have kPB1 : v15.cell? ⟨w.heap.size, 1, none⟩ = some (.slice sa M sc) := (BoxAt.cell PB.out 1).trans rfl
        have kXB1 : v15.cell? ⟨v9.heap.size, 1, none⟩ = some (.slice xa M xc) := (BoxAt.cell XB.out 1).trans rfl
        have kYB1 : v15.cell? ⟨v12.heap.size, 1, none⟩ = some (.slice ya yn yc) := (BoxAt.cell YB.out 1).trans rfl
        clear hb
        clear kPB1 kXB1 kYB1
        have kPB1 : v15.cell? ⟨w.heap.size, 1, none⟩ = some (.slice sa M sc) := (BoxAt.cell PB.out 1).trans rfl
        have kXB1 : v15.cell? ⟨v9.heap.size, 1, none⟩ = some (.slice xa M xc) := (BoxAt.cell XB.out 1).trans rfl
        have kYB1 : v15.cell? ⟨v12.heap.size, 1, none⟩ = some (.slice ya yn yc) := (BoxAt.cell YB.out 1).trans rfl
        go_wp2
        go_ret
        exact ⟨rfl, HB.out⟩
  case' b1005_6 =>
    refine step_new rfl 24 rfl _ Try.zeroEv ?_
    intro v5 b h z
    have SB := hid (show BoxAt v5 v4.heap.size 24 #[.bool false, .slice none 0 0] from b)
    have PB := hid (PB.out.belowAll h)
    have WB := hid (WB.out.belowAll h)
    have HB := hid (HB.out.trans (h.mono HB.out.size))
    have hsv5 : v4.heap.size + 1 ≤ v5.heap.size := by first | exact h.size | omega
    clear b h z
    refine hK1005.out _ _ (PB.out) (fun hHeld1005 => ?_)
    clear hK1005 K1005
    try simp only [Act.put, List.setIfInBounds_toArray, List.set_cons_zero, List.set_cons_succ]
    refine wpAnyH_ready (rs := [4]) (by kernel_rfl) (by simp) (AllReadyH.cons (o := { dst := some 25, op := Op.call { callee := Callee.builtin Builtin.append, args := #[Operand.const (Value.slice none 0 0), Operand.tmp 24], argTypes := #[22, 22] }, type := 22, pos := "more.go:40", after := _, guard := none }) rfl (fun K1009 hK1009 => ?_) AllReadyH.nil)
    refine step_app_nilWt rfl (.tmp 24) rfl _ l rfl (HV.out.below HB.out) (by have := HL.out; omega) ?_
    intro uv6 v6 ho h
    obtain ⟨qv6, rfl, -⟩ := ho.sl
    have PB := hid (PB.out.belowAll h)
    have WB := hid (WB.out.belowAll h)
    have SB := hid (SB.out.belowAll h)
    have HB := hid (HB.out.trans (h.mono HB.out.size))
    have hsv6 : v5.heap.size ≤ v6.heap.size := by first | exact h.size | omega
    have HWL := hid ho
    clear ho h
    refine hK1009.out _ _ (PB.out) (fun hHeld1009 => ?_)
    clear hK1009 K1009
    try simp only [Act.put, List.setIfInBounds_toArray, List.set_cons_zero, List.set_cons_succ]
    refine wpAnyH_take (i := 5) (oi := { dst := some 26, op := Op.build 24 #[(0, Operand.tmp 22), (1, Operand.tmp 25)], type := 24, pos := "more.go:40", after := _, guard := none }) (v := ?_) rfl (by kernel_rfl) (by kernel_rfl) (by kernel_rfl) (fun _ _ _ h => h) (Or.inl ⟨by rfl, ?_⟩) (by assumption) ?_
    rotate_left
    · (intro w hSw; (try dsimp only at hSw); go_simp; try with_reducible rfl)
    simp only [Act.put, List.setIfInBounds_toArray, List.set_cons_zero, List.set_cons_succ]
    refine wpAnyH_ready (rs := [7]) (by kernel_rfl) (by simp) (AllReadyH.cons (o := { dst := none, op := Op.store 24 (Operand.tmp 6) (Operand.tmp 26), type := 0, pos := "more.go:40", after := _, guard := none }) rfl (fun K1011 hK1011 => ?_) AllReadyH.nil)
    refine step_store_whole rfl 24 _ _ rfl (v4.heap.size) rfl [.bool k, .slice qv6.a qv6.n qv6.c] rfl _ _ SB.out rfl Try.infoEv (by simp [Value.oneCell']) ?_
    intro v7 b g z
    have hsv7 : v6.heap.size ≤ v7.heap.size := by omega
    have HWL := hid (HWL.out.put g SB.out (by decide))
    have SB := hid (show BoxAt v7 (v4.heap.size) 24 #[.bool k, .slice qv6.a qv6.n qv6.c] from b)
    have PB := hid (PB.out.grown g (fun e => by have := Option.some.inj e; omega))
    have WB := hid (WB.out.grown g (fun e => by have := Option.some.inj e; omega))
    have HB := hid (HB.out.trans (grown_below g (by omega) (by omega)))
    clear b g z
    refine hK1011.out _ _ (PB.out) (fun hHeld1011 => ?_)
    clear hK1011 K1011
    try simp only [Act.put]
    refine wpAnyH_done (by kernel_rfl) ?_ _
    clear hHeld hHeld1005 hHeld1009 hHeld1011
    have kPB1 : v7.cell? ⟨w.heap.size, 1, none⟩ = some (.slice sa M sc) := (BoxAt.cell PB.out 1).trans rfl
    have HWLB := hid (fun k hk => (HWL.out.lt k hk).2)
    go_wp2_with (first
      | (refine wpList_load_box rfl 24 _ rfl (w.heap.size) rfl _ _ PB.out _ Try.underlying24 Try.infoEv ?_)
      | fail)
    refine (set_any k (s := ⟨sa, M, sc⟩) (HV.out.below HB.out) (by have := HL.out; omega)).mono ?_
    rintro e v8 ⟨q0, rfl, hq, hb⟩
    have PB := hid (PB.out.belowAll hb)
    have WB := hid (WB.out.belowAll hb)
    have SB := hid (SB.out.belowAll hb)
    have HWL := hid (HWL.out.below hb)
    have HB := hid (HB.out.trans (hb.mono HB.out.size))
    have hsv8 : v7.heap.size ≤ v8.heap.size := by first | exact hb.size | omega
    clear hq
    clear kPB1
    have kPB1 : v8.cell? ⟨w.heap.size, 1, none⟩ = some (.slice sa M sc) := (BoxAt.cell PB.out 1).trans rfl
    clear hb
    go_wp2_with (first
      | (refine wpList_load_box rfl 24 _ rfl (w.heap.size) rfl _ _ PB.out _ Try.underlying24 Try.infoEv ?_)
      | fail)
    refine (reset_any k (s := ⟨sa, M, sc⟩) (HV.out.below HB.out) (by have := HL.out; omega)).mono ?_
    rintro e v9 ⟨x1, rfl, hu, hb⟩
    have PB := hid (PB.out.belowAll hb)
    have WB := hid (WB.out.belowAll hb)
    have SB := hid (SB.out.belowAll hb)
    have HWL := hid (HWL.out.below hb)
    have HB := hid (HB.out.trans (hb.mono HB.out.size))
    have hsv9 : v8.heap.size ≤ v9.heap.size := by first | exact hb.size | omega
    obtain ⟨X1, hX1⟩ : ∃ cc, l = cc := ⟨_, rfl⟩
    have hxn := hu.n
    rw [HM.out] at hxn
    rw [hX1] at hu
    have HX := hid hu
    have HXN := hid (show M = X1.length from by rw [← hX1]; exact HM.out.symm)
    have HXB := hid (fun k hk => (hu.lt k hk).2)
    have HXL := hid hu.lt
    obtain ⟨xa, xn, xc⟩ := x1
    simp only at hxn
    have hxm := hxn.symm
    clear hu hX1 hxn
    subst hxm
    clear kPB1
    have kPB1 : v9.cell? ⟨w.heap.size, 1, none⟩ = some (.slice sa M sc) := (BoxAt.cell PB.out 1).trans rfl
    clear hb
    have FL3 := hid trivial
    have FL4 := hid trivial
    go_wp2_with (first
      | (have hfl := FL3.out
         refine wpList_new rfl 24 rfl _ Try.zeroEv ?_
         intro v10 b h z
         have XB := hid (show BoxAt v10 v9.heap.size 24 #[.bool false, .slice none 0 0] from b)
         have PB := hid (PB.out.belowAll h)
         have WB := hid (WB.out.belowAll h)
         have SB := hid (SB.out.belowAll h)
         have HWL := hid (HWL.out.below h)
         have HX := hid (HX.out.below h)
         have HB := hid (HB.out.trans (h.mono HB.out.size))
         have hsv10 : v9.heap.size + 1 ≤ v10.heap.size := by first | exact h.size | omega
         clear kPB1
         have kPB1 : v10.cell? ⟨w.heap.size, 1, none⟩ = some (.slice sa M sc) := (BoxAt.cell PB.out 1).trans rfl
         clear b h z hfl FL3)
      | (have hfl := FL4.out
         refine wpList_store_whole rfl 24 _ _ rfl rfl (v9.heap.size) rfl [.bool false, .slice xa M xc] rfl _ _ XB.out rfl Try.infoEv (by simp [Value.oneCell']) ?_
         intro v11 b g z
         have hsv11 : v10.heap.size ≤ v11.heap.size := by omega
         have HWL := hid (HWL.out.put g XB.out (by decide))
         have HX := hid (HX.out.put g XB.out (by decide))
         have XB := hid (show BoxAt v11 (v9.heap.size) 24 #[.bool false, .slice xa M xc] from b)
         have PB := hid (PB.out.grown g (fun e => by have := Option.some.inj e; omega))
         have WB := hid (WB.out.grown g (fun e => by have := Option.some.inj e; omega))
         have SB := hid (SB.out.grown g (fun e => by have := Option.some.inj e; omega))
         have HB := hid (HB.out.trans (grown_below g (by omega) (by omega)))
         clear kPB1
         have kPB1 : v11.cell? ⟨w.heap.size, 1, none⟩ = some (.slice sa M sc) := (BoxAt.cell PB.out 1).trans rfl
         clear b g z hfl FL4)
      | (refine wpList_load_box rfl 24 _ rfl (w.heap.size) rfl _ _ PB.out _ Try.underlying24 Try.infoEv ?_)
      | (refine wpList_load_box rfl 26 _ rfl (v1.heap.size) rfl _ _ WB.out _ Try.underlying26 Try.infoWt ?_)
      | fail)
    refine (await_any k p r v true (s := ⟨sa, M, sc⟩) (HV.out.below HB.out) (by have := HL.out; omega)).mono ?_
    rintro e v12 ⟨y1, rfl, hu, hb⟩
    have PB := hid (PB.out.belowAll hb)
    have WB := hid (WB.out.belowAll hb)
    have SB := hid (SB.out.belowAll hb)
    have XB := hid (XB.out.belowAll hb)
    have HWL := hid (HWL.out.below hb)
    have HX := hid (HX.out.below hb)
    have HB := hid (HB.out.trans (hb.mono HB.out.size))
    have hsv12 : v11.heap.size ≤ v12.heap.size := by first | exact hb.size | omega
    obtain ⟨PC, hPC⟩ : ∃ cc, awC k true = cc := ⟨_, rfl⟩
    obtain ⟨Y1, hY1⟩ : ∃ cc, awL k true l ⟨p, r, v⟩ = cc := ⟨_, rfl⟩
    rw [hPC]
    rw [hY1] at hu
    have HY := hid hu
    have HYN := hid hu.n
    have HYL := hid hu.lt
    obtain ⟨ya, yn, yc⟩ := y1
    clear hu hPC hY1
    clear kPB1
    have kPB1 : v12.cell? ⟨w.heap.size, 1, none⟩ = some (.slice sa M sc) := (BoxAt.cell PB.out 1).trans rfl
    clear hb
    have FL5 := hid trivial
    have FL6 := hid trivial
    go_wp2_with (first
      | (have hfl := FL5.out
         refine wpList_new rfl 24 rfl _ Try.zeroEv ?_
         intro v13 b h z
         have YB := hid (show BoxAt v13 v12.heap.size 24 #[.bool false, .slice none 0 0] from b)
         have PB := hid (PB.out.belowAll h)
         have WB := hid (WB.out.belowAll h)
         have SB := hid (SB.out.belowAll h)
         have XB := hid (XB.out.belowAll h)
         have HWL := hid (HWL.out.below h)
         have HX := hid (HX.out.below h)
         have HY := hid (HY.out.below h)
         have HB := hid (HB.out.trans (h.mono HB.out.size))
         have hsv13 : v12.heap.size + 1 ≤ v13.heap.size := by first | exact h.size | omega
         clear kPB1
         have kPB1 : v13.cell? ⟨w.heap.size, 1, none⟩ = some (.slice sa M sc) := (BoxAt.cell PB.out 1).trans rfl
         clear b h z hfl FL5)
      | (have hfl := FL6.out
         refine wpList_store_whole rfl 24 _ _ rfl rfl (v12.heap.size) rfl [.bool k, .slice ya yn yc] rfl _ _ YB.out rfl Try.infoEv (by simp [Value.oneCell']) ?_
         intro v14 b g z
         have hsv14 : v13.heap.size ≤ v14.heap.size := by omega
         have HWL := hid (HWL.out.put g YB.out (by decide))
         have HX := hid (HX.out.put g YB.out (by decide))
         have HY := hid (HY.out.put g YB.out (by decide))
         have YB := hid (show BoxAt v14 (v12.heap.size) 24 #[.bool k, .slice ya yn yc] from b)
         have PB := hid (PB.out.grown g (fun e => by have := Option.some.inj e; omega))
         have WB := hid (WB.out.grown g (fun e => by have := Option.some.inj e; omega))
         have SB := hid (SB.out.grown g (fun e => by have := Option.some.inj e; omega))
         have XB := hid (XB.out.grown g (fun e => by have := Option.some.inj e; omega))
         have HB := hid (HB.out.trans (grown_below g (by omega) (by omega)))
         clear kPB1
         have kPB1 : v14.cell? ⟨w.heap.size, 1, none⟩ = some (.slice sa M sc) := (BoxAt.cell PB.out 1).trans rfl
         clear b g z hfl FL6
         refine Hid.out ?_)
      | fail)
    refine hid ?_
    clear kPB1
    have kPB1 : v14.cell? ⟨w.heap.size, 1, none⟩ = some (.slice sa M sc) := (BoxAt.cell PB.out 1).trans rfl
    have kXB1 : v14.cell? ⟨v9.heap.size, 1, none⟩ = some (.slice xa M xc) := (BoxAt.cell XB.out 1).trans rfl
    have kYB1 : v14.cell? ⟨v12.heap.size, 1, none⟩ = some (.slice ya yn yc) := (BoxAt.cell YB.out 1).trans rfl
    by_cases h0 : 0 < M
    · have hun1 : 0 < X1.length := by have : M = X1.length := HXN.out; omega
      obtain ⟨G1, cap1, hgv1, -⟩ := owns_formQ HX.out hun1
      simp only [Sl.val, Value.slice.injEq] at hgv1
      obtain ⟨rfl, -, -⟩ := hgv1
      obtain ⟨hG11, hG21⟩ := HXL.out G1 rfl
      obtain ⟨VX, hV1⟩ : ∃ V, (X1.getD 0 Wt.zero).v = V := ⟨_, rfl⟩
      have HVVX := hid hV1
      have hz1 : (0 : Int) < (M : Int) := by omega
      clear hV1
      have HYB := hid (fun k hk => (HYL.out k hk).1)
      go_wp2_with fail
      clear kPB1 kXB1 kYB1
      have PB := hid (BoxAt.drew PB.out)
      have WB := hid (BoxAt.drew WB.out)
      have SB := hid (BoxAt.drew SB.out)
      have XB := hid (BoxAt.drew XB.out)
      have YB := hid (BoxAt.drew YB.out)
      have HWL := hid (HWL.out.below ((Below.refl v14.heap.size v14).drew))
      have HX := hid (HX.out.below ((Below.refl v14.heap.size v14).drew))
      have HY := hid (HY.out.below ((Below.refl v14.heap.size v14).drew))
      have HB := hid (HB.out.drew)
      have hsv15 : v14.heap.size ≤ v14.drew.heap.size := Nat.le_refl _
      refine wp_region_held_drew (S := (fun w' : World => BoxAt w' (v9.heap.size) 24 #[.bool false, .slice (some ⟨G1, 0, none⟩) M xc])) (by kernel_rfl) (XB.out) (fun hHeld => ?_)
      generalize v14.drew = v15 at *
      refine wpAnyH_take (i := 0) (oi := { dst := some 41, op := Op.fieldAddr 24 (Operand.tmp 7) 1, type := 0, pos := "more.go:45", after := _, guard := none }) (v := ?_) rfl (by kernel_rfl) (by kernel_rfl) (by kernel_rfl) (fun _ _ _ h => h) (Or.inl ⟨by rfl, ?_⟩) (by assumption) ?_
      rotate_left
      · (intro w hSw; (try dsimp only at hSw); go_simp; try with_reducible rfl)
      simp only [Act.put, List.setIfInBounds_toArray, List.set_cons_zero, List.set_cons_succ]
      refine wpAnyH_take (i := 1) (oi := { dst := some 42, op := Op.load 22 (Operand.tmp 41), type := 22, pos := "more.go:45", after := _, guard := none }) (v := ?_) rfl (by kernel_rfl) (by kernel_rfl) (by kernel_rfl) (fun _ _ _ h => h) (Or.inl ⟨by rfl, ?_⟩) (by assumption) ?_
      rotate_left
      · (intro W hSw; (try dsimp only at hSw); have hs0S := hSw; have c0_0 : W.cell? ⟨v9.heap.size, 0, none⟩ = some (.bool false) := (BoxAt.cell hs0S 0).trans rfl; have c0_1 : W.cell? ⟨v9.heap.size, 1, none⟩ = some (.slice (some ⟨G1, 0, none⟩) M xc) := (BoxAt.cell hs0S 1).trans rfl; clear hs0S; go_simp; try with_reducible rfl)
      simp only [Act.put, List.setIfInBounds_toArray, List.set_cons_zero, List.set_cons_succ]
      refine wpAnyH_take (i := 2) (oi := { dst := some 43, op := Op.fieldAddr 24 (Operand.tmp 7) 1, type := 0, pos := "more.go:45", after := _, guard := none }) (v := ?_) rfl (by kernel_rfl) (by kernel_rfl) (by kernel_rfl) (fun _ _ _ h => h) (Or.inl ⟨by rfl, ?_⟩) (by assumption) ?_
      rotate_left
      · (intro w hSw; (try dsimp only at hSw); go_simp; try with_reducible rfl)
      simp only [Act.put, List.setIfInBounds_toArray, List.set_cons_zero, List.set_cons_succ]
      refine wpAnyH_take (i := 3) (oi := { dst := some 44, op := Op.load 22 (Operand.tmp 43), type := 22, pos := "more.go:45", after := _, guard := none }) (v := ?_) rfl (by kernel_rfl) (by kernel_rfl) (by kernel_rfl) (fun _ _ _ h => h) (Or.inl ⟨by rfl, ?_⟩) (by assumption) ?_
      rotate_left
      · (intro W hSw; (try dsimp only at hSw); have hs0S := hSw; have c0_0 : W.cell? ⟨v9.heap.size, 0, none⟩ = some (.bool false) := (BoxAt.cell hs0S 0).trans rfl; have c0_1 : W.cell? ⟨v9.heap.size, 1, none⟩ = some (.slice (some ⟨G1, 0, none⟩) M xc) := (BoxAt.cell hs0S 1).trans rfl; clear hs0S; go_simp; try with_reducible rfl)
      simp only [Act.put, List.setIfInBounds_toArray, List.set_cons_zero, List.set_cons_succ]
      refine wpAnyH_take (i := 4) (oi := { dst := some 45, op := Op.indexAddr 22 (Operand.tmp 44) (Operand.const (Value.int IntKind.i64 0)), type := 0, pos := "more.go:45", after := _, guard := none }) (v := ?_) rfl (by kernel_rfl) (by kernel_rfl) (by kernel_rfl) (fun _ _ _ h => h) (Or.inl ⟨by rfl, ?_⟩) (by assumption) ?_
      rotate_left
      · (intro w hSw; (try dsimp only at hSw); go_simp; try with_reducible rfl)
      simp only [Act.put, List.setIfInBounds_toArray, List.set_cons_zero, List.set_cons_succ]
      refine wpAnyH_take (i := 5) (oi := { dst := some 46, op := Op.fieldAddr 26 (Operand.tmp 45) 2, type := 0, pos := "more.go:45", after := _, guard := none }) (v := ?_) rfl (by kernel_rfl) (by kernel_rfl) (by kernel_rfl) (fun _ _ _ h => h) (Or.inl ⟨by rfl, ?_⟩) (by assumption) ?_
      rotate_left
      · (intro w hSw; (try dsimp only at hSw); go_simp; try with_reducible rfl)
      simp only [Act.put, List.setIfInBounds_toArray, List.set_cons_zero, List.set_cons_succ]
      refine wpAnyH_ready (rs := [6]) (by kernel_rfl) (by simp) (AllReadyH.cons (o := { dst := some 47, op := Op.load 3 (Operand.tmp 46), type := 3, pos := "more.go:45", after := _, guard := none }) rfl (fun K4007 hK4007 => ?_) AllReadyH.nil)
      have cG : v15.cell? ⟨G1, 2, none⟩ = some (.int .i64 VX) := (by have h := OWt.at HX.out 0 2 hun1 (by decide); rw [Nat.zero_mul, Nat.zero_add] at h; rw [h]; exact congrArg (fun v => some (Value.int .i64 v)) HVVX.out)
      go_simp
      clear cG
      refine hK4007.out _ _ (XB.out) (fun hHeld4007 => ?_)
      clear hK4007 K4007
      try simp only [Act.put, List.setIfInBounds_toArray, List.set_cons_zero, List.set_cons_succ]
      refine wpAnyH_take (i := 7) (oi := { dst := some 48, op := Op.binOp BinOp.add 3 (Operand.tmp 47) (Operand.const (Value.int IntKind.i64 1)) 3, type := 3, pos := "more.go:45", after := _, guard := none }) (v := ?_) rfl (by kernel_rfl) (by kernel_rfl) (by kernel_rfl) (fun _ _ _ h => h) (Or.inl ⟨by rfl, ?_⟩) (by assumption) ?_
      rotate_left
      · (intro W hSw; (try dsimp only at hSw); have hs0S := hSw; clear hs0S; go_simp; try with_reducible rfl)
      simp only [Act.put, List.setIfInBounds_toArray, List.set_cons_zero, List.set_cons_succ]
      refine wpAnyH_take (i := 8) (oi := { dst := some 49, op := Op.indexAddr 22 (Operand.tmp 42) (Operand.const (Value.int IntKind.i64 0)), type := 0, pos := "more.go:45", after := _, guard := none }) (v := ?_) rfl (by kernel_rfl) (by kernel_rfl) (by kernel_rfl) (fun _ _ _ h => h) (Or.inl ⟨by rfl, ?_⟩) (by assumption) ?_
      rotate_left
      · (intro w hSw; (try dsimp only at hSw); go_simp; try with_reducible rfl)
      simp only [Act.put, List.setIfInBounds_toArray, List.set_cons_zero, List.set_cons_succ]
      refine wpAnyH_take (i := 9) (oi := { dst := some 50, op := Op.fieldAddr 26 (Operand.tmp 49) 2, type := 0, pos := "more.go:45", after := _, guard := none }) (v := ?_) rfl (by kernel_rfl) (by kernel_rfl) (by kernel_rfl) (fun _ _ _ h => h) (Or.inl ⟨by rfl, ?_⟩) (by assumption) ?_
      rotate_left
      · (intro w hSw; (try dsimp only at hSw); go_simp; try with_reducible rfl)
      simp only [Act.put, List.setIfInBounds_toArray, List.set_cons_zero, List.set_cons_succ]
      refine wpAnyH_ready (rs := [10]) (by kernel_rfl) (by simp) (AllReadyH.cons (o := { dst := none, op := Op.store 3 (Operand.tmp 50) (Operand.tmp 48), type := 0, pos := "more.go:45", after := _, guard := none }) rfl (fun K4011 hK4011 => ?_) AllReadyH.nil)
      refine step_set_Wt rfl 3 _ _ rfl _ G1 _ _ X1 HX.out 0 2 hun1 (by decide) 2 rfl rfl _ rfl rfl rfl (by kernel_rfl) ?_
      intro v16 g z
      have hsv16 : v15.heap.size ≤ v16.heap.size := by omega
      have PB := hid (PB.out.grown g (fun e => by have := Option.some.inj e; omega))
      have WB := hid (WB.out.grown g (fun e => by have := Option.some.inj e; omega))
      have SB := hid (SB.out.grown g (fun e => by have := Option.some.inj e; omega))
      have XB := hid (XB.out.grown g (fun e => by have := Option.some.inj e; omega))
      have YB := hid (YB.out.grown g (fun e => by have := Option.some.inj e; omega))
      have HWL := hid (HWL.out.apart g (fun k hk => by have := HWLB.out k hk; omega))
      have HY := hid (HY.out.apart g (fun k hk => by have := HYB.out k hk; omega))
      have HB := hid (HB.out.trans (grown_below g (by omega) (by omega)))
      clear g z
      refine hK4011.out _ _ (XB.out) (fun hHeld4011 => ?_)
      clear hK4011 K4011
      try simp only [Act.put]
      refine wpAnyH_done (by kernel_rfl) ?_ _
      clear hHeld hHeld4007 hHeld4011
      have kPB1 : v16.cell? ⟨w.heap.size, 1, none⟩ = some (.slice sa M sc) := (BoxAt.cell PB.out 1).trans rfl
      have kXB1 : v16.cell? ⟨v9.heap.size, 1, none⟩ = some (.slice (some ⟨G1, 0, none⟩) M xc) := (BoxAt.cell XB.out 1).trans rfl
      have kYB1 : v16.cell? ⟨v12.heap.size, 1, none⟩ = some (.slice ya yn yc) := (BoxAt.cell YB.out 1).trans rfl
      clear HX
      by_cases h1 : 0 < yn
      · have hun2 : 0 < Y1.length := by have : yn = Y1.length := HYN.out; omega
        obtain ⟨G2, cap2, hgv2, -⟩ := owns_formQ HY.out hun2
        simp only [Sl.val, Value.slice.injEq] at hgv2
        obtain ⟨rfl, -, -⟩ := hgv2
        obtain ⟨hG12, hG22⟩ := HYL.out G2 rfl
        obtain ⟨VY, hV2⟩ : ∃ V, (Y1.getD 0 Wt.zero).v = V := ⟨_, rfl⟩
        have HVVY := hid hV2
        have hz2 : (0 : Int) < (yn : Int) := by omega
        clear hV2
        go_wp2_with fail
        clear kPB1 kXB1 kYB1
        have PB := hid (BoxAt.drew PB.out)
        have WB := hid (BoxAt.drew WB.out)
        have SB := hid (BoxAt.drew SB.out)
        have XB := hid (BoxAt.drew XB.out)
        have YB := hid (BoxAt.drew YB.out)
        have HWL := hid (HWL.out.below ((Below.refl v16.heap.size v16).drew))
        have HY := hid (HY.out.below ((Below.refl v16.heap.size v16).drew))
        have HB := hid (HB.out.drew)
        have hsv17 : v16.heap.size ≤ v16.drew.heap.size := Nat.le_refl _
        refine wp_region_held_drew (S := (fun w' : World => BoxAt w' (v12.heap.size) 24 #[.bool k, .slice (some ⟨G2, 0, none⟩) yn yc])) (by kernel_rfl) (YB.out) (fun hHeld => ?_)
        generalize v16.drew = v17 at *
        refine wpAnyH_take (i := 0) (oi := { dst := some 55, op := Op.fieldAddr 24 (Operand.tmp 8) 1, type := 0, pos := "more.go:48", after := _, guard := none }) (v := ?_) rfl (by kernel_rfl) (by kernel_rfl) (by kernel_rfl) (fun _ _ _ h => h) (Or.inl ⟨by rfl, ?_⟩) (by assumption) ?_
        rotate_left
        · (intro w hSw; (try dsimp only at hSw); go_simp; try with_reducible rfl)
        simp only [Act.put, List.setIfInBounds_toArray, List.set_cons_zero, List.set_cons_succ]
        refine wpAnyH_take (i := 1) (oi := { dst := some 56, op := Op.load 22 (Operand.tmp 55), type := 22, pos := "more.go:48", after := _, guard := none }) (v := ?_) rfl (by kernel_rfl) (by kernel_rfl) (by kernel_rfl) (fun _ _ _ h => h) (Or.inl ⟨by rfl, ?_⟩) (by assumption) ?_
        rotate_left
        · (intro W hSw; (try dsimp only at hSw); have hs0S := hSw; have c0_0 : W.cell? ⟨v12.heap.size, 0, none⟩ = some (.bool k) := (BoxAt.cell hs0S 0).trans rfl; have c0_1 : W.cell? ⟨v12.heap.size, 1, none⟩ = some (.slice (some ⟨G2, 0, none⟩) yn yc) := (BoxAt.cell hs0S 1).trans rfl; clear hs0S; go_simp; try with_reducible rfl)
        simp only [Act.put, List.setIfInBounds_toArray, List.set_cons_zero, List.set_cons_succ]
        refine wpAnyH_take (i := 2) (oi := { dst := some 57, op := Op.fieldAddr 24 (Operand.tmp 8) 1, type := 0, pos := "more.go:48", after := _, guard := none }) (v := ?_) rfl (by kernel_rfl) (by kernel_rfl) (by kernel_rfl) (fun _ _ _ h => h) (Or.inl ⟨by rfl, ?_⟩) (by assumption) ?_
        rotate_left
        · (intro w hSw; (try dsimp only at hSw); go_simp; try with_reducible rfl)
        simp only [Act.put, List.setIfInBounds_toArray, List.set_cons_zero, List.set_cons_succ]
        refine wpAnyH_take (i := 3) (oi := { dst := some 58, op := Op.load 22 (Operand.tmp 57), type := 22, pos := "more.go:48", after := _, guard := none }) (v := ?_) rfl (by kernel_rfl) (by kernel_rfl) (by kernel_rfl) (fun _ _ _ h => h) (Or.inl ⟨by rfl, ?_⟩) (by assumption) ?_
        rotate_left
        · (intro W hSw; (try dsimp only at hSw); have hs0S := hSw; have c0_0 : W.cell? ⟨v12.heap.size, 0, none⟩ = some (.bool k) := (BoxAt.cell hs0S 0).trans rfl; have c0_1 : W.cell? ⟨v12.heap.size, 1, none⟩ = some (.slice (some ⟨G2, 0, none⟩) yn yc) := (BoxAt.cell hs0S 1).trans rfl; clear hs0S; go_simp; try with_reducible rfl)
        simp only [Act.put, List.setIfInBounds_toArray, List.set_cons_zero, List.set_cons_succ]
        refine wpAnyH_take (i := 4) (oi := { dst := some 59, op := Op.indexAddr 22 (Operand.tmp 58) (Operand.const (Value.int IntKind.i64 0)), type := 0, pos := "more.go:48", after := _, guard := none }) (v := ?_) rfl (by kernel_rfl) (by kernel_rfl) (by kernel_rfl) (fun _ _ _ h => h) (Or.inl ⟨by rfl, ?_⟩) (by assumption) ?_
        rotate_left
        · (intro w hSw; (try dsimp only at hSw); go_simp; try with_reducible rfl)
        simp only [Act.put, List.setIfInBounds_toArray, List.set_cons_zero, List.set_cons_succ]
        refine wpAnyH_take (i := 5) (oi := { dst := some 60, op := Op.fieldAddr 26 (Operand.tmp 59) 2, type := 0, pos := "more.go:48", after := _, guard := none }) (v := ?_) rfl (by kernel_rfl) (by kernel_rfl) (by kernel_rfl) (fun _ _ _ h => h) (Or.inl ⟨by rfl, ?_⟩) (by assumption) ?_
        rotate_left
        · (intro w hSw; (try dsimp only at hSw); go_simp; try with_reducible rfl)
        simp only [Act.put, List.setIfInBounds_toArray, List.set_cons_zero, List.set_cons_succ]
        refine wpAnyH_ready (rs := [6]) (by kernel_rfl) (by simp) (AllReadyH.cons (o := { dst := some 61, op := Op.load 3 (Operand.tmp 60), type := 3, pos := "more.go:48", after := _, guard := none }) rfl (fun K4007 hK4007 => ?_) AllReadyH.nil)
        have cG : v17.cell? ⟨G2, 2, none⟩ = some (.int .i64 VY) := (by have h := OWt.at HY.out 0 2 hun2 (by decide); rw [Nat.zero_mul, Nat.zero_add] at h; rw [h]; exact congrArg (fun v => some (Value.int .i64 v)) HVVY.out)
        go_simp
        clear cG
        refine hK4007.out _ _ (YB.out) (fun hHeld4007 => ?_)
        clear hK4007 K4007
        try simp only [Act.put, List.setIfInBounds_toArray, List.set_cons_zero, List.set_cons_succ]
        refine wpAnyH_take (i := 7) (oi := { dst := some 62, op := Op.binOp BinOp.add 3 (Operand.tmp 61) (Operand.const (Value.int IntKind.i64 1)) 3, type := 3, pos := "more.go:48", after := _, guard := none }) (v := ?_) rfl (by kernel_rfl) (by kernel_rfl) (by kernel_rfl) (fun _ _ _ h => h) (Or.inl ⟨by rfl, ?_⟩) (by assumption) ?_
        rotate_left
        · (intro W hSw; (try dsimp only at hSw); have hs0S := hSw; clear hs0S; go_simp; try with_reducible rfl)
        simp only [Act.put, List.setIfInBounds_toArray, List.set_cons_zero, List.set_cons_succ]
        refine wpAnyH_take (i := 8) (oi := { dst := some 63, op := Op.indexAddr 22 (Operand.tmp 56) (Operand.const (Value.int IntKind.i64 0)), type := 0, pos := "more.go:48", after := _, guard := none }) (v := ?_) rfl (by kernel_rfl) (by kernel_rfl) (by kernel_rfl) (fun _ _ _ h => h) (Or.inl ⟨by rfl, ?_⟩) (by assumption) ?_
        rotate_left
        · (intro w hSw; (try dsimp only at hSw); go_simp; try with_reducible rfl)
        simp only [Act.put, List.setIfInBounds_toArray, List.set_cons_zero, List.set_cons_succ]
        refine wpAnyH_take (i := 9) (oi := { dst := some 64, op := Op.fieldAddr 26 (Operand.tmp 63) 2, type := 0, pos := "more.go:48", after := _, guard := none }) (v := ?_) rfl (by kernel_rfl) (by kernel_rfl) (by kernel_rfl) (fun _ _ _ h => h) (Or.inl ⟨by rfl, ?_⟩) (by assumption) ?_
        rotate_left
        · (intro w hSw; (try dsimp only at hSw); go_simp; try with_reducible rfl)
        simp only [Act.put, List.setIfInBounds_toArray, List.set_cons_zero, List.set_cons_succ]
        refine wpAnyH_ready (rs := [10]) (by kernel_rfl) (by simp) (AllReadyH.cons (o := { dst := none, op := Op.store 3 (Operand.tmp 64) (Operand.tmp 62), type := 0, pos := "more.go:48", after := _, guard := none }) rfl (fun K4011 hK4011 => ?_) AllReadyH.nil)
        refine step_set_Wt rfl 3 _ _ rfl _ G2 _ _ Y1 HY.out 0 2 hun2 (by decide) 2 rfl rfl _ rfl rfl rfl (by kernel_rfl) ?_
        intro v18 g z
        have hsv18 : v17.heap.size ≤ v18.heap.size := by omega
        have PB := hid (PB.out.grown g (fun e => by have := Option.some.inj e; omega))
        have WB := hid (WB.out.grown g (fun e => by have := Option.some.inj e; omega))
        have SB := hid (SB.out.grown g (fun e => by have := Option.some.inj e; omega))
        have XB := hid (XB.out.grown g (fun e => by have := Option.some.inj e; omega))
        have YB := hid (YB.out.grown g (fun e => by have := Option.some.inj e; omega))
        have HWL := hid (HWL.out.apart g (fun k hk => by have := HWLB.out k hk; omega))
        have HB := hid (HB.out.trans (grown_below g (by omega) (by omega)))
        clear g z
        refine hK4011.out _ _ (YB.out) (fun hHeld4011 => ?_)
        clear hK4011 K4011
        try simp only [Act.put]
        refine wpAnyH_done (by kernel_rfl) ?_ _
        clear hHeld hHeld4007 hHeld4011
        have kPB1 : v18.cell? ⟨w.heap.size, 1, none⟩ = some (.slice sa M sc) := (BoxAt.cell PB.out 1).trans rfl
        have kXB1 : v18.cell? ⟨v9.heap.size, 1, none⟩ = some (.slice (some ⟨G1, 0, none⟩) M xc) := (BoxAt.cell XB.out 1).trans rfl
        have kYB1 : v18.cell? ⟨v12.heap.size, 1, none⟩ = some (.slice (some ⟨G2, 0, none⟩) yn yc) := (BoxAt.cell YB.out 1).trans rfl
        clear HY
        go_wp2_with (first
          | (refine wpList_load_box rfl 24 _ rfl (w.heap.size) rfl _ _ PB.out _ Try.underlying24 Try.infoEv ?_)
          | (refine wpList_load_box rfl 24 _ rfl (v4.heap.size) rfl _ _ SB.out _ Try.underlying24 Try.infoEv ?_)
          | fail)
        refine (rsame_any k (s := ⟨sa, M, sc⟩) (r := qv6) (HV.out.below HB.out) HWL.out.sees).mono ?_
        rintro e v19 ⟨rfl, hb⟩
        have PB := hid (PB.out.belowAll hb)
        have WB := hid (WB.out.belowAll hb)
        have SB := hid (SB.out.belowAll hb)
        have XB := hid (XB.out.belowAll hb)
        have YB := hid (YB.out.belowAll hb)
        have HB := hid (HB.out.trans (hb.mono HB.out.size))
        have hsv19 : v18.heap.size ≤ v19.heap.size := by first | exact hb.size | omega
        clear kPB1 kXB1 kYB1
        have kPB1 : v19.cell? ⟨w.heap.size, 1, none⟩ = some (.slice sa M sc) := (BoxAt.cell PB.out 1).trans rfl
        have kXB1 : v19.cell? ⟨v9.heap.size, 1, none⟩ = some (.slice (some ⟨G1, 0, none⟩) M xc) := (BoxAt.cell XB.out 1).trans rfl
        have kYB1 : v19.cell? ⟨v12.heap.size, 1, none⟩ = some (.slice (some ⟨G2, 0, none⟩) yn yc) := (BoxAt.cell YB.out 1).trans rfl
        clear hb
        clear kPB1 kXB1 kYB1
        have kPB1 : v19.cell? ⟨w.heap.size, 1, none⟩ = some (.slice sa M sc) := (BoxAt.cell PB.out 1).trans rfl
        have kXB1 : v19.cell? ⟨v9.heap.size, 1, none⟩ = some (.slice (some ⟨G1, 0, none⟩) M xc) := (BoxAt.cell XB.out 1).trans rfl
        have kYB1 : v19.cell? ⟨v12.heap.size, 1, none⟩ = some (.slice (some ⟨G2, 0, none⟩) yn yc) := (BoxAt.cell YB.out 1).trans rfl
        go_wp2
        go_ret
        exact ⟨rfl, HB.out⟩
      · have hz2 : ¬ (0 : Int) < (yn : Int) := by omega
        go_wp2_with (first
          | (refine wpList_load_box rfl 24 _ rfl (w.heap.size) rfl _ _ PB.out _ Try.underlying24 Try.infoEv ?_)
          | (refine wpList_load_box rfl 24 _ rfl (v4.heap.size) rfl _ _ SB.out _ Try.underlying24 Try.infoEv ?_)
          | fail)
        refine (rsame_any k (s := ⟨sa, M, sc⟩) (r := qv6) (HV.out.below HB.out) HWL.out.sees).mono ?_
        rintro e v17 ⟨rfl, hb⟩
        have PB := hid (PB.out.belowAll hb)
        have WB := hid (WB.out.belowAll hb)
        have SB := hid (SB.out.belowAll hb)
        have XB := hid (XB.out.belowAll hb)
        have YB := hid (YB.out.belowAll hb)
        have HB := hid (HB.out.trans (hb.mono HB.out.size))
        have hsv17 : v16.heap.size ≤ v17.heap.size := by first | exact hb.size | omega
        clear kPB1 kXB1 kYB1
        have kPB1 : v17.cell? ⟨w.heap.size, 1, none⟩ = some (.slice sa M sc) := (BoxAt.cell PB.out 1).trans rfl
        have kXB1 : v17.cell? ⟨v9.heap.size, 1, none⟩ = some (.slice (some ⟨G1, 0, none⟩) M xc) := (BoxAt.cell XB.out 1).trans rfl
        have kYB1 : v17.cell? ⟨v12.heap.size, 1, none⟩ = some (.slice ya yn yc) := (BoxAt.cell YB.out 1).trans rfl
        clear hb
        clear kPB1 kXB1 kYB1
        have kPB1 : v17.cell? ⟨w.heap.size, 1, none⟩ = some (.slice sa M sc) := (BoxAt.cell PB.out 1).trans rfl
        have kXB1 : v17.cell? ⟨v9.heap.size, 1, none⟩ = some (.slice (some ⟨G1, 0, none⟩) M xc) := (BoxAt.cell XB.out 1).trans rfl
        have kYB1 : v17.cell? ⟨v12.heap.size, 1, none⟩ = some (.slice ya yn yc) := (BoxAt.cell YB.out 1).trans rfl
        go_wp2
        go_ret
        exact ⟨rfl, HB.out⟩
    · have hz1 : ¬ (0 : Int) < (M : Int) := by omega
      clear HX
      by_cases h1 : 0 < yn
      · have hun2 : 0 < Y1.length := by have : yn = Y1.length := HYN.out; omega
        obtain ⟨G2, cap2, hgv2, -⟩ := owns_formQ HY.out hun2
        simp only [Sl.val, Value.slice.injEq] at hgv2
        obtain ⟨rfl, -, -⟩ := hgv2
        obtain ⟨hG12, hG22⟩ := HYL.out G2 rfl
        obtain ⟨VY, hV2⟩ : ∃ V, (Y1.getD 0 Wt.zero).v = V := ⟨_, rfl⟩
        have HVVY := hid hV2
        have hz2 : (0 : Int) < (yn : Int) := by omega
        clear hV2
        go_wp2_with fail
        clear kPB1 kXB1 kYB1
        have PB := hid (BoxAt.drew PB.out)
        have WB := hid (BoxAt.drew WB.out)
        have SB := hid (BoxAt.drew SB.out)
        have XB := hid (BoxAt.drew XB.out)
        have YB := hid (BoxAt.drew YB.out)
        have HWL := hid (HWL.out.below ((Below.refl v14.heap.size v14).drew))
        have HY := hid (HY.out.below ((Below.refl v14.heap.size v14).drew))
        have HB := hid (HB.out.drew)
        have hsv15 : v14.heap.size ≤ v14.drew.heap.size := Nat.le_refl _
        refine wp_region_held_drew (S := (fun w' : World => BoxAt w' (v12.heap.size) 24 #[.bool k, .slice (some ⟨G2, 0, none⟩) yn yc])) (by kernel_rfl) (YB.out) (fun hHeld => ?_)
        generalize v14.drew = v15 at *
        refine wpAnyH_take (i := 0) (oi := { dst := some 55, op := Op.fieldAddr 24 (Operand.tmp 8) 1, type := 0, pos := "more.go:48", after := _, guard := none }) (v := ?_) rfl (by kernel_rfl) (by kernel_rfl) (by kernel_rfl) (fun _ _ _ h => h) (Or.inl ⟨by rfl, ?_⟩) (by assumption) ?_
        rotate_left
        · (intro w hSw; (try dsimp only at hSw); go_simp; try with_reducible rfl)
        simp only [Act.put, List.setIfInBounds_toArray, List.set_cons_zero, List.set_cons_succ]
        refine wpAnyH_take (i := 1) (oi := { dst := some 56, op := Op.load 22 (Operand.tmp 55), type := 22, pos := "more.go:48", after := _, guard := none }) (v := ?_) rfl (by kernel_rfl) (by kernel_rfl) (by kernel_rfl) (fun _ _ _ h => h) (Or.inl ⟨by rfl, ?_⟩) (by assumption) ?_
        rotate_left
        · (intro W hSw; (try dsimp only at hSw); have hs0S := hSw; have c0_0 : W.cell? ⟨v12.heap.size, 0, none⟩ = some (.bool k) := (BoxAt.cell hs0S 0).trans rfl; have c0_1 : W.cell? ⟨v12.heap.size, 1, none⟩ = some (.slice (some ⟨G2, 0, none⟩) yn yc) := (BoxAt.cell hs0S 1).trans rfl; clear hs0S; go_simp; try with_reducible rfl)
        simp only [Act.put, List.setIfInBounds_toArray, List.set_cons_zero, List.set_cons_succ]
        refine wpAnyH_take (i := 2) (oi := { dst := some 57, op := Op.fieldAddr 24 (Operand.tmp 8) 1, type := 0, pos := "more.go:48", after := _, guard := none }) (v := ?_) rfl (by kernel_rfl) (by kernel_rfl) (by kernel_rfl) (fun _ _ _ h => h) (Or.inl ⟨by rfl, ?_⟩) (by assumption) ?_
        rotate_left
        · (intro w hSw; (try dsimp only at hSw); go_simp; try with_reducible rfl)
        simp only [Act.put, List.setIfInBounds_toArray, List.set_cons_zero, List.set_cons_succ]
        refine wpAnyH_take (i := 3) (oi := { dst := some 58, op := Op.load 22 (Operand.tmp 57), type := 22, pos := "more.go:48", after := _, guard := none }) (v := ?_) rfl (by kernel_rfl) (by kernel_rfl) (by kernel_rfl) (fun _ _ _ h => h) (Or.inl ⟨by rfl, ?_⟩) (by assumption) ?_
        rotate_left
        · (intro W hSw; (try dsimp only at hSw); have hs0S := hSw; have c0_0 : W.cell? ⟨v12.heap.size, 0, none⟩ = some (.bool k) := (BoxAt.cell hs0S 0).trans rfl; have c0_1 : W.cell? ⟨v12.heap.size, 1, none⟩ = some (.slice (some ⟨G2, 0, none⟩) yn yc) := (BoxAt.cell hs0S 1).trans rfl; clear hs0S; go_simp; try with_reducible rfl)
        simp only [Act.put, List.setIfInBounds_toArray, List.set_cons_zero, List.set_cons_succ]
        refine wpAnyH_take (i := 4) (oi := { dst := some 59, op := Op.indexAddr 22 (Operand.tmp 58) (Operand.const (Value.int IntKind.i64 0)), type := 0, pos := "more.go:48", after := _, guard := none }) (v := ?_) rfl (by kernel_rfl) (by kernel_rfl) (by kernel_rfl) (fun _ _ _ h => h) (Or.inl ⟨by rfl, ?_⟩) (by assumption) ?_
        rotate_left
        · (intro w hSw; (try dsimp only at hSw); go_simp; try with_reducible rfl)
        simp only [Act.put, List.setIfInBounds_toArray, List.set_cons_zero, List.set_cons_succ]
        refine wpAnyH_take (i := 5) (oi := { dst := some 60, op := Op.fieldAddr 26 (Operand.tmp 59) 2, type := 0, pos := "more.go:48", after := _, guard := none }) (v := ?_) rfl (by kernel_rfl) (by kernel_rfl) (by kernel_rfl) (fun _ _ _ h => h) (Or.inl ⟨by rfl, ?_⟩) (by assumption) ?_
        rotate_left
        · (intro w hSw; (try dsimp only at hSw); go_simp; try with_reducible rfl)
        simp only [Act.put, List.setIfInBounds_toArray, List.set_cons_zero, List.set_cons_succ]
        refine wpAnyH_ready (rs := [6]) (by kernel_rfl) (by simp) (AllReadyH.cons (o := { dst := some 61, op := Op.load 3 (Operand.tmp 60), type := 3, pos := "more.go:48", after := _, guard := none }) rfl (fun K6007 hK6007 => ?_) AllReadyH.nil)
        have cG : v15.cell? ⟨G2, 2, none⟩ = some (.int .i64 VY) := (by have h := OWt.at HY.out 0 2 hun2 (by decide); rw [Nat.zero_mul, Nat.zero_add] at h; rw [h]; exact congrArg (fun v => some (Value.int .i64 v)) HVVY.out)
        go_simp
        clear cG
        refine hK6007.out _ _ (YB.out) (fun hHeld6007 => ?_)
        clear hK6007 K6007
        try simp only [Act.put, List.setIfInBounds_toArray, List.set_cons_zero, List.set_cons_succ]
        refine wpAnyH_take (i := 7) (oi := { dst := some 62, op := Op.binOp BinOp.add 3 (Operand.tmp 61) (Operand.const (Value.int IntKind.i64 1)) 3, type := 3, pos := "more.go:48", after := _, guard := none }) (v := ?_) rfl (by kernel_rfl) (by kernel_rfl) (by kernel_rfl) (fun _ _ _ h => h) (Or.inl ⟨by rfl, ?_⟩) (by assumption) ?_
        rotate_left
        · (intro W hSw; (try dsimp only at hSw); have hs0S := hSw; clear hs0S; go_simp; try with_reducible rfl)
        simp only [Act.put, List.setIfInBounds_toArray, List.set_cons_zero, List.set_cons_succ]
        refine wpAnyH_take (i := 8) (oi := { dst := some 63, op := Op.indexAddr 22 (Operand.tmp 56) (Operand.const (Value.int IntKind.i64 0)), type := 0, pos := "more.go:48", after := _, guard := none }) (v := ?_) rfl (by kernel_rfl) (by kernel_rfl) (by kernel_rfl) (fun _ _ _ h => h) (Or.inl ⟨by rfl, ?_⟩) (by assumption) ?_
        rotate_left
        · (intro w hSw; (try dsimp only at hSw); go_simp; try with_reducible rfl)
        simp only [Act.put, List.setIfInBounds_toArray, List.set_cons_zero, List.set_cons_succ]
        refine wpAnyH_take (i := 9) (oi := { dst := some 64, op := Op.fieldAddr 26 (Operand.tmp 63) 2, type := 0, pos := "more.go:48", after := _, guard := none }) (v := ?_) rfl (by kernel_rfl) (by kernel_rfl) (by kernel_rfl) (fun _ _ _ h => h) (Or.inl ⟨by rfl, ?_⟩) (by assumption) ?_
        rotate_left
        · (intro w hSw; (try dsimp only at hSw); go_simp; try with_reducible rfl)
        simp only [Act.put, List.setIfInBounds_toArray, List.set_cons_zero, List.set_cons_succ]
        refine wpAnyH_ready (rs := [10]) (by kernel_rfl) (by simp) (AllReadyH.cons (o := { dst := none, op := Op.store 3 (Operand.tmp 64) (Operand.tmp 62), type := 0, pos := "more.go:48", after := _, guard := none }) rfl (fun K6011 hK6011 => ?_) AllReadyH.nil)
        refine step_set_Wt rfl 3 _ _ rfl _ G2 _ _ Y1 HY.out 0 2 hun2 (by decide) 2 rfl rfl _ rfl rfl rfl (by kernel_rfl) ?_
        intro v16 g z
        have hsv16 : v15.heap.size ≤ v16.heap.size := by omega
        have PB := hid (PB.out.grown g (fun e => by have := Option.some.inj e; omega))
        have WB := hid (WB.out.grown g (fun e => by have := Option.some.inj e; omega))
        have SB := hid (SB.out.grown g (fun e => by have := Option.some.inj e; omega))
        have XB := hid (XB.out.grown g (fun e => by have := Option.some.inj e; omega))
        have YB := hid (YB.out.grown g (fun e => by have := Option.some.inj e; omega))
        have HWL := hid (HWL.out.apart g (fun k hk => by have := HWLB.out k hk; omega))
        have HB := hid (HB.out.trans (grown_below g (by omega) (by omega)))
        clear g z
        refine hK6011.out _ _ (YB.out) (fun hHeld6011 => ?_)
        clear hK6011 K6011
        try simp only [Act.put]
        refine wpAnyH_done (by kernel_rfl) ?_ _
        clear hHeld hHeld6007 hHeld6011
        have kPB1 : v16.cell? ⟨w.heap.size, 1, none⟩ = some (.slice sa M sc) := (BoxAt.cell PB.out 1).trans rfl
        have kXB1 : v16.cell? ⟨v9.heap.size, 1, none⟩ = some (.slice xa M xc) := (BoxAt.cell XB.out 1).trans rfl
        have kYB1 : v16.cell? ⟨v12.heap.size, 1, none⟩ = some (.slice (some ⟨G2, 0, none⟩) yn yc) := (BoxAt.cell YB.out 1).trans rfl
        clear HY
        go_wp2_with (first
          | (refine wpList_load_box rfl 24 _ rfl (w.heap.size) rfl _ _ PB.out _ Try.underlying24 Try.infoEv ?_)
          | (refine wpList_load_box rfl 24 _ rfl (v4.heap.size) rfl _ _ SB.out _ Try.underlying24 Try.infoEv ?_)
          | fail)
        refine (rsame_any k (s := ⟨sa, M, sc⟩) (r := qv6) (HV.out.below HB.out) HWL.out.sees).mono ?_
        rintro e v17 ⟨rfl, hb⟩
        have PB := hid (PB.out.belowAll hb)
        have WB := hid (WB.out.belowAll hb)
        have SB := hid (SB.out.belowAll hb)
        have XB := hid (XB.out.belowAll hb)
        have YB := hid (YB.out.belowAll hb)
        have HB := hid (HB.out.trans (hb.mono HB.out.size))
        have hsv17 : v16.heap.size ≤ v17.heap.size := by first | exact hb.size | omega
        clear kPB1 kXB1 kYB1
        have kPB1 : v17.cell? ⟨w.heap.size, 1, none⟩ = some (.slice sa M sc) := (BoxAt.cell PB.out 1).trans rfl
        have kXB1 : v17.cell? ⟨v9.heap.size, 1, none⟩ = some (.slice xa M xc) := (BoxAt.cell XB.out 1).trans rfl
        have kYB1 : v17.cell? ⟨v12.heap.size, 1, none⟩ = some (.slice (some ⟨G2, 0, none⟩) yn yc) := (BoxAt.cell YB.out 1).trans rfl
        clear hb
        clear kPB1 kXB1 kYB1
        have kPB1 : v17.cell? ⟨w.heap.size, 1, none⟩ = some (.slice sa M sc) := (BoxAt.cell PB.out 1).trans rfl
        have kXB1 : v17.cell? ⟨v9.heap.size, 1, none⟩ = some (.slice xa M xc) := (BoxAt.cell XB.out 1).trans rfl
        have kYB1 : v17.cell? ⟨v12.heap.size, 1, none⟩ = some (.slice (some ⟨G2, 0, none⟩) yn yc) := (BoxAt.cell YB.out 1).trans rfl
        go_wp2
        go_ret
        exact ⟨rfl, HB.out⟩
      · have hz2 : ¬ (0 : Int) < (yn : Int) := by omega
        go_wp2_with (first
          | (refine wpList_load_box rfl 24 _ rfl (w.heap.size) rfl _ _ PB.out _ Try.underlying24 Try.infoEv ?_)
          | (refine wpList_load_box rfl 24 _ rfl (v4.heap.size) rfl _ _ SB.out _ Try.underlying24 Try.infoEv ?_)
          | fail)
        refine (rsame_any k (s := ⟨sa, M, sc⟩) (r := qv6) (HV.out.below HB.out) HWL.out.sees).mono ?_
        rintro e v15 ⟨rfl, hb⟩
        have PB := hid (PB.out.belowAll hb)
        have WB := hid (WB.out.belowAll hb)
        have SB := hid (SB.out.belowAll hb)
        have XB := hid (XB.out.belowAll hb)
        have YB := hid (YB.out.belowAll hb)
        have HB := hid (HB.out.trans (hb.mono HB.out.size))
        have hsv15 : v14.heap.size ≤ v15.heap.size := by first | exact hb.size | omega
        clear kPB1 kXB1 kYB1
        have kPB1 : v15.cell? ⟨w.heap.size, 1, none⟩ = some (.slice sa M sc) := (BoxAt.cell PB.out 1).trans rfl
        have kXB1 : v15.cell? ⟨v9.heap.size, 1, none⟩ = some (.slice xa M xc) := (BoxAt.cell XB.out 1).trans rfl
        have kYB1 : v15.cell? ⟨v12.heap.size, 1, none⟩ = some (.slice ya yn yc) := (BoxAt.cell YB.out 1).trans rfl
        clear hb
        clear kPB1 kXB1 kYB1
        have kPB1 : v15.cell? ⟨w.heap.size, 1, none⟩ = some (.slice sa M sc) := (BoxAt.cell PB.out 1).trans rfl
        have kXB1 : v15.cell? ⟨v9.heap.size, 1, none⟩ = some (.slice xa M xc) := (BoxAt.cell XB.out 1).trans rfl
        have kYB1 : v15.cell? ⟨v12.heap.size, 1, none⟩ = some (.slice ya yn yc) := (BoxAt.cell YB.out 1).trans rfl
        go_wp2
        go_ret
        exact ⟨rfl, HB.out⟩

end Go.Proofs.Ytgnjnhfimagbpaa
