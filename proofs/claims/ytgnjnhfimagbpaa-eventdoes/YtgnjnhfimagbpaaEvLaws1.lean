/-
  EventDoes: the walk.
-/
import Derived.Test.YtgnjnhfimagbpaaEvAwake
import Derived.Test.YtgnjnhfimagbpaaEvOpen
namespace Go.Proofs.Ytgnjnhfimagbpaa
open Go.RowKit
set_option linter.unusedVariables false


set_option maxRecDepth 100000 in
set_option maxHeartbeats 3200000 in
theorem walk_EventDoes (w : World) (x0 : EvX) (f0 : x0.fit w) (y : Wt) (f1 : y.fit) (may : Bool) :
    Calls Try.prog 3 #[x0.val, y.val, .bool may] w fun e w' => e = .returned (.bool true) ∧ Below w.heap.size w w' := by
  obtain ⟨p, r, v⟩ := y
  clear f1
  obtain ⟨⟨k, s⟩, ⟨k', l⟩⟩ := x0
  obtain ⟨⟨h1, hs⟩, -⟩ := f0
  simp only at h1 hs
  subst h1
  have HV := hid hs
  obtain ⟨a2, c2, hs1, hc1, hc2, -⟩ := hs.form
  obtain ⟨sa, sn, sc⟩ := s
  simp only [Sl.val, Value.slice.injEq] at hs1
  obtain ⟨rfl, rfl, rfl⟩ := hs1
  unfold maxLen at hc2
  simp only [Sl.val] at HV
  clear hs
  unfold EvX.val EvV.val Wt.val
  simp only
  obtain ⟨M, hM⟩ : ∃ M, l.length = M := ⟨_, rfl⟩
  have HM := hid hM
  rw [hM] at hc1 HV ⊢
  clear hM
  have HB := hid (Below.refl w.heap.size w)
  obtain ⟨AC, hAC⟩ : ∃ cc, awC k may = cc := ⟨_, rfl⟩
  have HAC := hid hAC
  have eAC : (AC == AC) = true := by simp
  clear hAC
  go_enter Try.func3, Try.ntmps3
  have FL1 := hid trivial
  have FL2 := hid trivial
  go_wp2_with (first
    | (have hfl := FL1.out
       refine wpList_box rfl 24 (.tmp 0) rfl #[.bool k, .slice sa M sc] rfl ?_
       intro v1 b h z
       have PB := hid (show BoxAt v1 w.heap.size 24 #[.bool k, .slice sa M sc] from b)
       have HB := hid (HB.out.trans (h.mono HB.out.size))
       have hsv1 : w.heap.size + 1 ≤ v1.heap.size := by first | exact h.size | omega
       clear b h z hfl FL1)
    | (have hfl := FL2.out
       refine wpList_box rfl 26 (.tmp 1) rfl #[.int .i64 p, .int .i64 r, .int .i64 v] rfl ?_
       intro v2 b h z
       have WB := hid (show BoxAt v2 v1.heap.size 26 #[.int .i64 p, .int .i64 r, .int .i64 v] from b)
       have PB := hid (PB.out.belowAll h)
       have HB := hid (HB.out.trans (h.mono HB.out.size))
       have hsv2 : v1.heap.size + 1 ≤ v2.heap.size := by first | exact h.size | omega
       have kPB1 : v2.cell? ⟨w.heap.size, 1, none⟩ = some (.slice sa M sc) := (BoxAt.cell PB.out 1).trans rfl
       clear b h z hfl FL2)
    | fail)
  refine (evawake_any _).mono ?_
  rintro e v3 ⟨rfl, hb⟩
  have PB := hid (PB.out.belowAll hb)
  have WB := hid (WB.out.belowAll hb)
  have HB := hid (HB.out.trans (hb.mono HB.out.size))
  have hsv3 : v2.heap.size ≤ v3.heap.size := by first | exact hb.size | omega
  clear kPB1
  have kPB1 : v3.cell? ⟨w.heap.size, 1, none⟩ = some (.slice sa M sc) := (BoxAt.cell PB.out 1).trans rfl
  clear hb
  by_cases hgd0 : (60 : Int) < (M : Int)
  · go_wp2
    go_ret
    exact ⟨rfl, HB.out⟩
  have HL := hid (show l.length ≤ 60 by have := HM.out; omega)
  go_wp2_with (first
    | (refine wpList_load_box rfl 24 _ rfl (w.heap.size) rfl _ _ PB.out _ Try.underlying24 Try.infoEv ?_)
    | fail)
  refine (set_any k (s := ⟨sa, M, sc⟩) (HV.out.below HB.out) (by have := HL.out; omega)).mono ?_
  rintro e v4 ⟨q3, rfl, hq, hb⟩
  have PB := hid (PB.out.belowAll hb)
  have WB := hid (WB.out.belowAll hb)
  have HB := hid (HB.out.trans (hb.mono HB.out.size))
  have hsv4 : v3.heap.size ≤ v4.heap.size := by first | exact hb.size | omega
  have HQ3 := hid hq
  clear hq
  clear kPB1
  have kPB1 : v4.cell? ⟨w.heap.size, 1, none⟩ = some (.slice sa M sc) := (BoxAt.cell PB.out 1).trans rfl
  clear hb
  have FL3 := hid trivial
  have FL4 := hid trivial
  go_wp2_with (first
    | (have hfl := FL3.out
       refine wpList_new rfl 24 rfl _ Try.zeroEv ?_
       intro v5 b h z
       have XB := hid (show BoxAt v5 v4.heap.size 24 #[.bool false, .slice none 0 0] from b)
       have PB := hid (PB.out.belowAll h)
       have WB := hid (WB.out.belowAll h)
       have HQ3 := hid (HQ3.out.below h)
       have HB := hid (HB.out.trans (h.mono HB.out.size))
       have hsv5 : v4.heap.size + 1 ≤ v5.heap.size := by first | exact h.size | omega
       clear kPB1
       have kPB1 : v5.cell? ⟨w.heap.size, 1, none⟩ = some (.slice sa M sc) := (BoxAt.cell PB.out 1).trans rfl
       clear b h z hfl FL3)
    | (have hfl := FL4.out
       refine wpList_store_whole rfl 24 _ _ rfl rfl (v4.heap.size) rfl [.bool true, .slice none 0 0] rfl _ _ XB.out rfl Try.infoEv (by simp [Value.oneCell']) ?_
       intro v6 b g z
       have hsv6 : v5.heap.size ≤ v6.heap.size := by omega
       have HQ3 := hid (HQ3.out.put g XB.out (by decide))
       have XB := hid (show BoxAt v6 (v4.heap.size) 24 #[.bool true, .slice none 0 0] from b)
       have PB := hid (PB.out.grown g (fun e => by have := Option.some.inj e; omega))
       have WB := hid (WB.out.grown g (fun e => by have := Option.some.inj e; omega))
       have HB := hid (HB.out.trans (grown_below g (by omega) (by omega)))
       clear kPB1
       have kPB1 : v6.cell? ⟨w.heap.size, 1, none⟩ = some (.slice sa M sc) := (BoxAt.cell PB.out 1).trans rfl
       clear b g z hfl FL4)
    | (refine wpList_load_box rfl 24 _ rfl (w.heap.size) rfl _ _ PB.out _ Try.underlying24 Try.infoEv ?_)
    | fail)
  refine (rset_any k (s := ⟨sa, M, sc⟩) (HV.out.below HB.out) (by have := HL.out; omega)).mono ?_
  rintro e v7 ⟨q4, rfl, hq, hb⟩
  have PB := hid (PB.out.belowAll hb)
  have WB := hid (WB.out.belowAll hb)
  have XB := hid (XB.out.belowAll hb)
  have HQ3 := hid (HQ3.out.below hb)
  have HB := hid (HB.out.trans (hb.mono HB.out.size))
  have hsv7 : v6.heap.size ≤ v7.heap.size := by first | exact hb.size | omega
  have HQ4 := hid hq
  clear hq
  clear kPB1
  have kPB1 : v7.cell? ⟨w.heap.size, 1, none⟩ = some (.slice sa M sc) := (BoxAt.cell PB.out 1).trans rfl
  clear hb
  have FL5 := hid trivial
  have FL6 := hid trivial
  go_wp2_with (first
    | (have hfl := FL5.out
       refine wpList_new rfl 24 rfl _ Try.zeroEv ?_
       intro v8 b h z
       have YB := hid (show BoxAt v8 v7.heap.size 24 #[.bool false, .slice none 0 0] from b)
       have PB := hid (PB.out.belowAll h)
       have WB := hid (WB.out.belowAll h)
       have XB := hid (XB.out.belowAll h)
       have HQ3 := hid (HQ3.out.below h)
       have HQ4 := hid (HQ4.out.below h)
       have HB := hid (HB.out.trans (h.mono HB.out.size))
       have hsv8 : v7.heap.size + 1 ≤ v8.heap.size := by first | exact h.size | omega
       clear kPB1
       have kPB1 : v8.cell? ⟨w.heap.size, 1, none⟩ = some (.slice sa M sc) := (BoxAt.cell PB.out 1).trans rfl
       clear b h z hfl FL5)
    | (have hfl := FL6.out
       refine wpList_store_whole rfl 24 _ _ rfl rfl (v7.heap.size) rfl [.bool true, .slice none 0 0] rfl _ _ YB.out rfl Try.infoEv (by simp [Value.oneCell']) ?_
       intro v9 b g z
       have hsv9 : v8.heap.size ≤ v9.heap.size := by omega
       have HQ3 := hid (HQ3.out.put g YB.out (by decide))
       have HQ4 := hid (HQ4.out.put g YB.out (by decide))
       have YB := hid (show BoxAt v9 (v7.heap.size) 24 #[.bool true, .slice none 0 0] from b)
       have PB := hid (PB.out.grown g (fun e => by have := Option.some.inj e; omega))
       have WB := hid (WB.out.grown g (fun e => by have := Option.some.inj e; omega))
       have XB := hid (XB.out.grown g (fun e => by have := Option.some.inj e; omega))
       have HB := hid (HB.out.trans (grown_below g (by omega) (by omega)))
       clear kPB1
       have kPB1 : v9.cell? ⟨w.heap.size, 1, none⟩ = some (.slice sa M sc) := (BoxAt.cell PB.out 1).trans rfl
       clear b g z hfl FL6)
    | (refine wpList_load_box rfl 24 _ rfl (v4.heap.size) rfl _ _ XB.out _ Try.underlying24 Try.infoEv ?_)
    | (refine wpList_load_box rfl 24 _ rfl (v7.heap.size) rfl _ _ YB.out _ Try.underlying24 Try.infoEv ?_)
    | fail)
  refine (rsame_any true (s := ⟨none, 0, 0⟩) (r := ⟨none, 0, 0⟩) (SeesWt.nil _) (SeesWt.nil _)).mono ?_
  rintro e v10 ⟨rfl, hb⟩
  have PB := hid (PB.out.belowAll hb)
  have WB := hid (WB.out.belowAll hb)
  have XB := hid (XB.out.belowAll hb)
  have YB := hid (YB.out.belowAll hb)
  have HQ3 := hid (HQ3.out.below hb)
  have HQ4 := hid (HQ4.out.below hb)
  have HB := hid (HB.out.trans (hb.mono HB.out.size))
  have hsv10 : v9.heap.size ≤ v10.heap.size := by first | exact hb.size | omega
  clear kPB1
  have kPB1 : v10.cell? ⟨w.heap.size, 1, none⟩ = some (.slice sa M sc) := (BoxAt.cell PB.out 1).trans rfl
  clear hb
  go_wp2_with fail
  refine (same_Wk HQ3.out.sees HQ4.out.sees).mono ?_
  rintro e v11 ⟨rfl, hb⟩
  have PB := hid (PB.out.belowAll hb)
  have WB := hid (WB.out.belowAll hb)
  have XB := hid (XB.out.belowAll hb)
  have YB := hid (YB.out.belowAll hb)
  have HQ3 := hid (HQ3.out.below hb)
  have HQ4 := hid (HQ4.out.below hb)
  have HB := hid (HB.out.trans (hb.mono HB.out.size))
  have hsv11 : v10.heap.size ≤ v11.heap.size := by first | exact hb.size | omega
  clear kPB1
  have kPB1 : v11.cell? ⟨w.heap.size, 1, none⟩ = some (.slice sa M sc) := (BoxAt.cell PB.out 1).trans rfl
  clear hb
  clear HQ3 HQ4
  clear XB YB
  go_wp2_with fail
  clear kPB1
  have PB := hid (BoxAt.drew PB.out)
  have WB := hid (BoxAt.drew WB.out)
  have HB := hid (HB.out.drew)
  have hsv12 : v11.heap.size ≤ v11.drew.heap.size := Nat.le_refl _
  refine wp_region_held_drew (S := (fun w' : World => BoxAt w' (w.heap.size) 24 #[.bool k, .slice sa M sc])) (by kernel_rfl) (PB.out) (fun hHeld => ?_)
  generalize v11.drew = v12 at *
  refine wpAnyH_take (i := 0) (oi := { dst := some 46, op := Op.load 24 (Operand.tmp 3), type := 24, pos := "law.go:29", after := _, guard := none }) (v := ?_) rfl (by kernel_rfl) (by kernel_rfl) (by kernel_rfl) (fun _ _ _ h => h) (Or.inl ⟨by rfl, ?_⟩) (by assumption) ?_
  rotate_left
  · (intro W hSw; (try dsimp only at hSw); have hs0S := hSw; have c0_0 : W.cell? ⟨w.heap.size, 0, none⟩ = some (.bool k) := (BoxAt.cell hs0S 0).trans rfl; have c0_1 : W.cell? ⟨w.heap.size, 1, none⟩ = some (.slice sa M sc) := (BoxAt.cell hs0S 1).trans rfl; clear hs0S; go_simp; try with_reducible rfl)
  simp only [Act.put, List.setIfInBounds_toArray, List.set_cons_zero, List.set_cons_succ]
  refine wpAnyH_take (i := 2) (oi := { dst := some 48, op := Op.load 24 (Operand.tmp 3), type := 24, pos := "law.go:29", after := _, guard := none }) (v := ?_) rfl (by kernel_rfl) (by kernel_rfl) (by kernel_rfl) (fun _ _ _ h => h) (Or.inl ⟨by rfl, ?_⟩) (by assumption) ?_
  rotate_left
  · (intro W hSw; (try dsimp only at hSw); have hs0S := hSw; have c0_0 : W.cell? ⟨w.heap.size, 0, none⟩ = some (.bool k) := (BoxAt.cell hs0S 0).trans rfl; have c0_1 : W.cell? ⟨w.heap.size, 1, none⟩ = some (.slice sa M sc) := (BoxAt.cell hs0S 1).trans rfl; clear hs0S; go_simp; try with_reducible rfl)
  simp only [Act.put, List.setIfInBounds_toArray, List.set_cons_zero, List.set_cons_succ]
  refine wpAnyH_ready (rs := [1]) (by kernel_rfl) (by simp) (AllReadyH.cons (o := { dst := some 47, op := Op.call { callee := Callee.value (Operand.func 13), args := #[Operand.tmp 46], argTypes := #[24] }, type := 24, pos := "law.go:29", after := _, guard := none }) rfl (fun K1003 hK1003 => ?_) AllReadyH.nil)
  go_simp
  refine (reset_any k (s := ⟨sa, M, sc⟩) (HV.out.below HB.out) (by have := HL.out; omega)).mono ?_
  rintro e v13 ⟨x5, rfl, hu, hb⟩
  have PB := hid (PB.out.belowAll hb)
  have WB := hid (WB.out.belowAll hb)
  have HB := hid (HB.out.trans (hb.mono HB.out.size))
  have hsv13 : v12.heap.size ≤ v13.heap.size := by first | exact hb.size | omega
  have HU5 := hid hu
  clear hu
  clear hb
  refine hK1003.out _ _ (PB.out) (fun hHeld1003 => ?_)
  clear hK1003 K1003
  try simp only [Act.put, List.setIfInBounds_toArray, List.set_cons_zero, List.set_cons_succ]
  refine wpAnyH_ready (rs := [3]) (by kernel_rfl) (by simp) (AllReadyH.cons (o := { dst := some 49, op := Op.call { callee := Callee.value (Operand.func 14), args := #[Operand.tmp 48], argTypes := #[24] }, type := 24, pos := "law.go:29", after := _, guard := none }) rfl (fun K1004 hK1004 => ?_) AllReadyH.nil)
  go_simp
  refine (rreset_any k (s := ⟨sa, M, sc⟩) (HV.out.below HB.out) (by have := HL.out; omega)).mono ?_
  rintro e v14 ⟨x6, rfl, hu, hb⟩
  have PB := hid (PB.out.belowAll hb)
  have WB := hid (WB.out.belowAll hb)
  have HU5 := hid (HU5.out.below hb)
  have HB := hid (HB.out.trans (hb.mono HB.out.size))
  have hsv14 : v13.heap.size ≤ v14.heap.size := by first | exact hb.size | omega
  have HU6 := hid hu
  clear hu
  clear hb
  refine hK1004.out _ _ (PB.out) (fun hHeld1004 => ?_)
  clear hK1004 K1004
  try simp only [Act.put, List.setIfInBounds_toArray, List.set_cons_zero, List.set_cons_succ]
  refine wpAnyH_ready (rs := [4]) (by kernel_rfl) (by simp) (AllReadyH.cons (o := { dst := some 50, op := Op.call { callee := Callee.value (Operand.func 11), args := #[Operand.tmp 47, Operand.tmp 49], argTypes := #[24, 24] }, type := 4, pos := "law.go:29", after := _, guard := none }) rfl (fun K1005 hK1005 => ?_) AllReadyH.nil)
  go_simp
  refine (rsame_any false HU5.out.sees HU6.out.sees).mono ?_
  rintro e v15 ⟨rfl, hb⟩
  have PB := hid (PB.out.belowAll hb)
  have WB := hid (WB.out.belowAll hb)
  have HU5 := hid (HU5.out.below hb)
  have HU6 := hid (HU6.out.below hb)
  have HB := hid (HB.out.trans (hb.mono HB.out.size))
  have hsv15 : v14.heap.size ≤ v15.heap.size := by first | exact hb.size | omega
  clear hb
  refine hK1005.out _ _ (PB.out) (fun hHeld1005 => ?_)
  clear hK1005 K1005
  try simp only [Act.put, List.setIfInBounds_toArray, List.set_cons_zero, List.set_cons_succ]
  refine wpAnyH_take (i := 5) (oi := { dst := some 14, op := Op.assign (Operand.tmp 50), type := 4, pos := "law.go:29", after := _, guard := none }) (v := ?_) rfl (by kernel_rfl) (by kernel_rfl) (by kernel_rfl) (fun _ _ _ h => h) (Or.inl ⟨by rfl, ?_⟩) (by assumption) ?_
  rotate_left
  · (intro w hSw; (try dsimp only at hSw); go_simp; try with_reducible rfl)
  simp only [Act.put, List.setIfInBounds_toArray, List.set_cons_zero, List.set_cons_succ]
  refine wpAnyH_done (by kernel_rfl) ?_ _
  clear hHeld hHeld1003 hHeld1004 hHeld1005
  have kPB1 : v15.cell? ⟨w.heap.size, 1, none⟩ = some (.slice sa M sc) := (BoxAt.cell PB.out 1).trans rfl
  clear HU5 HU6
  go_wp2_with (first
    | (refine wpList_load_box rfl 24 _ rfl (w.heap.size) rfl _ _ PB.out _ Try.underlying24 Try.infoEv ?_)
    | (refine wpList_load_box rfl 26 _ rfl (v1.heap.size) rfl _ _ WB.out _ Try.underlying26 Try.infoWt ?_)
    | fail)
  refine (await_any k p r v may (s := ⟨sa, M, sc⟩) (HV.out.below HB.out) (by have := HL.out; omega)).mono ?_
  rintro e v16 ⟨x1, rfl, hu, hb⟩
  have PB := hid (PB.out.belowAll hb)
  have WB := hid (WB.out.belowAll hb)
  have HB := hid (HB.out.trans (hb.mono HB.out.size))
  have hsv16 : v15.heap.size ≤ v16.heap.size := by first | exact hb.size | omega
  rw [HAC.out]
  have HU1 := hid hu
  clear hu
  clear kPB1
  have kPB1 : v16.cell? ⟨w.heap.size, 1, none⟩ = some (.slice sa M sc) := (BoxAt.cell PB.out 1).trans rfl
  clear hb
  have FL7 := hid trivial
  have FL8 := hid trivial
  go_wp2_with (first
    | (have hfl := FL7.out
       refine wpList_new rfl 24 rfl _ Try.zeroEv ?_
       intro v17 b h z
       have AB := hid (show BoxAt v17 v16.heap.size 24 #[.bool false, .slice none 0 0] from b)
       have PB := hid (PB.out.belowAll h)
       have WB := hid (WB.out.belowAll h)
       have HU1 := hid (HU1.out.below h)
       have HB := hid (HB.out.trans (h.mono HB.out.size))
       have hsv17 : v16.heap.size + 1 ≤ v17.heap.size := by first | exact h.size | omega
       clear kPB1
       have kPB1 : v17.cell? ⟨w.heap.size, 1, none⟩ = some (.slice sa M sc) := (BoxAt.cell PB.out 1).trans rfl
       clear b h z hfl FL7)
    | (have hfl := FL8.out
       refine wpList_store_whole rfl 24 _ _ rfl rfl (v16.heap.size) rfl [.bool k, .slice x1.a x1.n x1.c] rfl _ _ AB.out rfl Try.infoEv (by simp [Value.oneCell']) ?_
       intro v18 b g z
       have hsv18 : v17.heap.size ≤ v18.heap.size := by omega
       have HU1 := hid (HU1.out.put g AB.out (by decide))
       have AB := hid (show BoxAt v18 (v16.heap.size) 24 #[.bool k, .slice x1.a x1.n x1.c] from b)
       have PB := hid (PB.out.grown g (fun e => by have := Option.some.inj e; omega))
       have WB := hid (WB.out.grown g (fun e => by have := Option.some.inj e; omega))
       have HB := hid (HB.out.trans (grown_below g (by omega) (by omega)))
       clear kPB1
       have kPB1 : v18.cell? ⟨w.heap.size, 1, none⟩ = some (.slice sa M sc) := (BoxAt.cell PB.out 1).trans rfl
       clear b g z hfl FL8)
    | (refine wpList_load_box rfl 24 _ rfl (w.heap.size) rfl _ _ PB.out _ Try.underlying24 Try.infoEv ?_)
    | (refine wpList_load_box rfl 26 _ rfl (v1.heap.size) rfl _ _ WB.out _ Try.underlying26 Try.infoWt ?_)
    | fail)
  refine (rawait_any k p r v may (s := ⟨sa, M, sc⟩) (HV.out.below HB.out) (by have := HL.out; omega)).mono ?_
  rintro e v19 ⟨x2, rfl, hu, hb⟩
  have PB := hid (PB.out.belowAll hb)
  have WB := hid (WB.out.belowAll hb)
  have AB := hid (AB.out.belowAll hb)
  have HU1 := hid (HU1.out.below hb)
  have HB := hid (HB.out.trans (hb.mono HB.out.size))
  have hsv19 : v18.heap.size ≤ v19.heap.size := by first | exact hb.size | omega
  rw [HAC.out]
  have HU2 := hid hu
  clear hu
  clear kPB1
  have kPB1 : v19.cell? ⟨w.heap.size, 1, none⟩ = some (.slice sa M sc) := (BoxAt.cell PB.out 1).trans rfl
  clear hb
  have FL9 := hid trivial
  have FL10 := hid trivial
  go_wp2_with (first
    | (have hfl := FL9.out
       refine wpList_new rfl 24 rfl _ Try.zeroEv ?_
       intro v20 b h z
       have CB := hid (show BoxAt v20 v19.heap.size 24 #[.bool false, .slice none 0 0] from b)
       have PB := hid (PB.out.belowAll h)
       have WB := hid (WB.out.belowAll h)
       have AB := hid (AB.out.belowAll h)
       have HU1 := hid (HU1.out.below h)
       have HU2 := hid (HU2.out.below h)
       have HB := hid (HB.out.trans (h.mono HB.out.size))
       have hsv20 : v19.heap.size + 1 ≤ v20.heap.size := by first | exact h.size | omega
       clear kPB1
       have kPB1 : v20.cell? ⟨w.heap.size, 1, none⟩ = some (.slice sa M sc) := (BoxAt.cell PB.out 1).trans rfl
       clear b h z hfl FL9)
    | (have hfl := FL10.out
       refine wpList_store_whole rfl 24 _ _ rfl rfl (v19.heap.size) rfl [.bool k, .slice x2.a x2.n x2.c] rfl _ _ CB.out rfl Try.infoEv (by simp [Value.oneCell']) ?_
       intro v21 b g z
       have hsv21 : v20.heap.size ≤ v21.heap.size := by omega
       have HU1 := hid (HU1.out.put g CB.out (by decide))
       have HU2 := hid (HU2.out.put g CB.out (by decide))
       have CB := hid (show BoxAt v21 (v19.heap.size) 24 #[.bool k, .slice x2.a x2.n x2.c] from b)
       have PB := hid (PB.out.grown g (fun e => by have := Option.some.inj e; omega))
       have WB := hid (WB.out.grown g (fun e => by have := Option.some.inj e; omega))
       have AB := hid (AB.out.grown g (fun e => by have := Option.some.inj e; omega))
       have HB := hid (HB.out.trans (grown_below g (by omega) (by omega)))
       clear kPB1
       have kPB1 : v21.cell? ⟨w.heap.size, 1, none⟩ = some (.slice sa M sc) := (BoxAt.cell PB.out 1).trans rfl
       clear b g z hfl FL10)
    | (refine wpList_load_box rfl 24 _ rfl (v16.heap.size) rfl _ _ AB.out _ Try.underlying24 Try.infoEv ?_)
    | (refine wpList_load_box rfl 24 _ rfl (v19.heap.size) rfl _ _ CB.out _ Try.underlying24 Try.infoEv ?_)
    | fail)
  refine (rsame_any k HU1.out.sees HU2.out.sees).mono ?_
  rintro e v22 ⟨rfl, hb⟩
  have PB := hid (PB.out.belowAll hb)
  have WB := hid (WB.out.belowAll hb)
  have AB := hid (AB.out.belowAll hb)
  have CB := hid (CB.out.belowAll hb)
  have HU1 := hid (HU1.out.below hb)
  have HU2 := hid (HU2.out.below hb)
  have HB := hid (HB.out.trans (hb.mono HB.out.size))
  have hsv22 : v21.heap.size ≤ v22.heap.size := by first | exact hb.size | omega
  clear kPB1
  have kPB1 : v22.cell? ⟨w.heap.size, 1, none⟩ = some (.slice sa M sc) := (BoxAt.cell PB.out 1).trans rfl
  clear hb
  go_wp2
  go_ret
  exact ⟨rfl, HB.out⟩

end Go.Proofs.Ytgnjnhfimagbpaa
