/-
  What the document's Set, Reset, Await and Same return, whatever events they are given.
-/
import Derived.Test.YtgnjnhfimagbpaaEv1
namespace Go.Proofs.Ytgnjnhfimagbpaa
open Go.RowKit
set_option linter.unusedVariables false


set_option maxRecDepth 100000 in
set_option maxHeartbeats 1600000 in
theorem rset_any (k : Bool) {s : Sl} {l : List Wt} {w : World} (hs : SeesWt w s.val l) (hl : l.length ≤ 800000) :
    Calls Try.prog 10 #[EvV.val ⟨k, s⟩] w fun e w' => ∃ (q : Sl), e = .returned (.tuple #[EvV.val ⟨true, ⟨none, 0, 0⟩⟩, q.val]) ∧ OWk w' w.heap.size q.val (allP l 0 0) ∧ Below w.heap.size w w' := by
  have HV := hid hs
  obtain ⟨a2, c2, hs1, hc1, hc2, -⟩ := hs.form
  obtain ⟨sa, sn, sc⟩ := s
  simp only [Sl.val, Value.slice.injEq] at hs1
  obtain ⟨rfl, rfl, rfl⟩ := hs1
  unfold maxLen at hc2
  simp only [Sl.val] at HV
  clear hs
  unfold EvV.val
  simp only
  obtain ⟨M, hM⟩ : ∃ M, l.length = M := ⟨_, rfl⟩
  have HM := hid hM
  have HL := hid hl
  rw [hM] at hl hc1 HV ⊢
  clear hM
  have HB := hid (Below.refl w.heap.size w)
  go_enter Try.func10, Try.ntmps10
  have FL1 := hid trivial
  have FL2 := hid trivial
  go_wp2_with (first
    | (have hfl := FL1.out
       refine wpList_box rfl 24 (.tmp 0) rfl #[.bool k, .slice sa M sc] rfl ?_
       intro v1 b h z
       have PB := hid (show BoxAt v1 w.heap.size 24 #[.bool k, .slice sa M sc] from b)
       have HB := hid (HB.out.trans (h.mono HB.out.size))
       have hsv1 : w.heap.size + 1 ≤ v1.heap.size := by first | exact h.size | omega
       clear b h z hfl FL1)
    | (have hfl := FL2.out
       refine wpList_new rfl 24 rfl _ Try.zeroEv ?_
       intro v2 b h z
       have RB := hid (show BoxAt v2 v1.heap.size 24 #[.bool false, .slice none 0 0] from b)
       have PB := hid (PB.out.belowAll h)
       have HB := hid (HB.out.trans (h.mono HB.out.size))
       have hsv2 : v1.heap.size + 1 ≤ v2.heap.size := by first | exact h.size | omega
       have kPB1 : v2.cell? ⟨w.heap.size, 1, none⟩ = some (.slice sa M sc) := (BoxAt.cell PB.out 1).trans rfl
       clear b h z hfl FL2
       refine Hid.out ?_)
    | fail)
  refine hid ?_
  clear kPB1
  have kPB1 : v2.cell? ⟨w.heap.size, 1, none⟩ = some (.slice sa M sc) := (BoxAt.cell PB.out 1).trans rfl
  go_wp2_with fail
  have HBt := HB.out.size
  refine (rall_any 0 0 (HV.out.below HB.out) (by have := HL.out; omega)).mono ?_
  rintro e v3 ⟨uu, rfl, hu, hb⟩
  have PB := hid (PB.out.belowAll hb)
  have RB := hid (RB.out.belowAll hb)
  have HB := hid (HB.out.trans (hb.mono HB.out.size))
  have hsv3 : v2.heap.size ≤ v3.heap.size := by first | exact hb.size | omega
  obtain ⟨q, rfl, -⟩ := hu.sl
  have HQ := hid (hu.mono HBt)
  clear hu HBt
  clear kPB1
  have kPB1 : v3.cell? ⟨w.heap.size, 1, none⟩ = some (.slice sa M sc) := (BoxAt.cell PB.out 1).trans rfl
  clear hb
  have FL3 := hid trivial
  go_wp2_with (first
    | (have hfl := FL3.out
       refine wpList_store_whole rfl 24 _ _ rfl rfl (v1.heap.size) rfl [.bool true, .slice none 0 0] rfl _ _ RB.out rfl Try.infoEv (by simp [Value.oneCell']) ?_
       intro v4 b g z
       have hsv4 : v3.heap.size ≤ v4.heap.size := by omega
       have HQ := hid (HQ.out.put g RB.out (by decide))
       have RB := hid (show BoxAt v4 (v1.heap.size) 24 #[.bool true, .slice none 0 0] from b)
       have PB := hid (PB.out.grown g (fun e => by have := Option.some.inj e; omega))
       have HB := hid (HB.out.trans (grown_below g (by omega) (by omega)))
       clear kPB1
       have kPB1 : v4.cell? ⟨w.heap.size, 1, none⟩ = some (.slice sa M sc) := (BoxAt.cell PB.out 1).trans rfl
       clear b g z hfl FL3)
    | fail)
  refine bodyPost_ret (results_box_tmp rfl _ _ (v1.heap.size) 24 _ (0, 0) _ rfl RB.out Try.underlying24 rfl Try.infoEv) rfl ?_
  exact ⟨q, rfl, HQ.out, HB.out⟩

set_option maxRecDepth 100000 in
set_option maxHeartbeats 1600000 in
theorem rreset_any (k : Bool) {s : Sl} {l : List Wt} {w : World} (hs : SeesWt w s.val l) (hl : l.length ≤ 800000) :
    Calls Try.prog 14 #[EvV.val ⟨k, s⟩] w fun e w' => ∃ (x : Sl), e = .returned (EvV.val ⟨false, x⟩) ∧ OWt w' w.heap.size x.val l ∧ Below w.heap.size w w' := by
  have HV := hid hs
  obtain ⟨a2, c2, hs1, hc1, hc2, -⟩ := hs.form
  obtain ⟨sa, sn, sc⟩ := s
  simp only [Sl.val, Value.slice.injEq] at hs1
  obtain ⟨rfl, rfl, rfl⟩ := hs1
  unfold maxLen at hc2
  simp only [Sl.val] at HV
  clear hs
  unfold EvV.val
  simp only
  obtain ⟨M, hM⟩ : ∃ M, l.length = M := ⟨_, rfl⟩
  have HM := hid hM
  have HL := hid hl
  rw [hM] at hl hc1 HV ⊢
  clear hM
  have HB := hid (Below.refl w.heap.size w)
  go_enter Try.func14, Try.ntmps14
  have FL1 := hid trivial
  have FL2 := hid trivial
  go_wp2_with (first
    | (have hfl := FL1.out
       refine wpList_box rfl 24 (.tmp 0) rfl #[.bool k, .slice sa M sc] rfl ?_
       intro v1 b h z
       have PB := hid (show BoxAt v1 w.heap.size 24 #[.bool k, .slice sa M sc] from b)
       have HB := hid (HB.out.trans (h.mono HB.out.size))
       have hsv1 : w.heap.size + 1 ≤ v1.heap.size := by first | exact h.size | omega
       clear b h z hfl FL1)
    | (have hfl := FL2.out
       refine wpList_new rfl 24 rfl _ Try.zeroEv ?_
       intro v2 b h z
       have RB := hid (show BoxAt v2 v1.heap.size 24 #[.bool false, .slice none 0 0] from b)
       have PB := hid (PB.out.belowAll h)
       have HB := hid (HB.out.trans (h.mono HB.out.size))
       have hsv2 : v1.heap.size + 1 ≤ v2.heap.size := by first | exact h.size | omega
       have kPB1 : v2.cell? ⟨w.heap.size, 1, none⟩ = some (.slice sa M sc) := (BoxAt.cell PB.out 1).trans rfl
       clear b h z hfl FL2
       refine Hid.out ?_)
    | fail)
  refine hid ?_
  clear kPB1
  have kPB1 : v2.cell? ⟨w.heap.size, 1, none⟩ = some (.slice sa M sc) := (BoxAt.cell PB.out 1).trans rfl
  have FL3 := hid trivial
  go_wp2_with (first
    | (have hfl := FL3.out
       at_builtin
       refine app_nilWt rfl (.tmp 4) rfl _ l rfl (HV.out.below HB.out) (by have := HL.out; omega) ?_
       intro uv3 v3 ho h
       obtain ⟨qv3, rfl, -⟩ := ho.sl
       have PB := hid (PB.out.belowAll h)
       have RB := hid (RB.out.belowAll h)
       have HB := hid (HB.out.trans (h.mono HB.out.size))
       have hsv3 : v2.heap.size ≤ v3.heap.size := by first | exact h.size | omega
       have HC := hid ho
       clear kPB1
       have kPB1 : v3.cell? ⟨w.heap.size, 1, none⟩ = some (.slice sa M sc) := (BoxAt.cell PB.out 1).trans rfl
       clear ho h hfl FL3
       refine Hid.out ?_)
    | fail)
  refine hid ?_
  have HC := hid (HC.out.mono (base' := w.heap.size) (by omega))
  have FL4 := hid trivial
  go_wp2_with (first
    | (have hfl := FL4.out
       refine wpList_store_whole rfl 24 _ _ rfl rfl (v1.heap.size) rfl [.bool false, .slice qv3.a qv3.n qv3.c] rfl _ _ RB.out rfl Try.infoEv (by simp [Value.oneCell']) ?_
       intro v4 b g z
       have hsv4 : v3.heap.size ≤ v4.heap.size := by omega
       have HC := hid (HC.out.put g RB.out (by decide))
       have RB := hid (show BoxAt v4 (v1.heap.size) 24 #[.bool false, .slice qv3.a qv3.n qv3.c] from b)
       have PB := hid (PB.out.grown g (fun e => by have := Option.some.inj e; omega))
       have HB := hid (HB.out.trans (grown_below g (by omega) (by omega)))
       clear kPB1
       have kPB1 : v4.cell? ⟨w.heap.size, 1, none⟩ = some (.slice sa M sc) := (BoxAt.cell PB.out 1).trans rfl
       clear b g z hfl FL4)
    | fail)
  refine bodyPost_ret (results_cell_row rfl _ _ (v1.heap.size) 24 _ (0, 0) _ rfl RB.out Try.underlying24 rfl Try.infoEv) rfl ?_
  exact ⟨qv3, rfl, HC.out, HB.out⟩

set_option maxRecDepth 100000 in
set_option maxHeartbeats 1600000 in
theorem rawait_up {s : Sl} {l : List Wt} (p r v : Int) (may : Bool) {w : World} (hs : SeesWt w s.val l) (hl : l.length ≤ 800000) :
    Calls Try.prog 16 #[EvV.val ⟨true, s⟩, .agg #[.int .i64 p, .int .i64 r, .int .i64 v], .bool may] w fun e w' => ∃ (x : Sl), e = .returned (.tuple #[EvV.val ⟨true, x⟩, .int .i64 (0)]) ∧ OWt w' w.heap.size x.val (l) ∧ Below w.heap.size w w' := by
  have HV := hid hs
  obtain ⟨a2, c2, hs1, hc1, hc2, -⟩ := hs.form
  obtain ⟨sa, sn, sc⟩ := s
  simp only [Sl.val, Value.slice.injEq] at hs1
  obtain ⟨rfl, rfl, rfl⟩ := hs1
  unfold maxLen at hc2
  simp only [Sl.val] at HV
  clear hs
  unfold EvV.val
  simp only
  obtain ⟨M, hM⟩ : ∃ M, l.length = M := ⟨_, rfl⟩
  have HM := hid hM
  have HL := hid hl
  rw [hM] at hl hc1 HV ⊢
  clear hM
  have HB := hid (Below.refl w.heap.size w)
  go_enter Try.func16, Try.ntmps16
  have FL1 := hid trivial
  have FL2 := hid trivial
  have FL3 := hid trivial
  go_wp2_with (first
    | (have hfl := FL1.out
       refine wpList_box rfl 24 (.tmp 0) rfl #[.bool true, .slice sa M sc] rfl ?_
       intro v1 b h z
       have PB := hid (show BoxAt v1 w.heap.size 24 #[.bool true, .slice sa M sc] from b)
       have HB := hid (HB.out.trans (h.mono HB.out.size))
       have hsv1 : w.heap.size + 1 ≤ v1.heap.size := by first | exact h.size | omega
       clear b h z hfl FL1)
    | (have hfl := FL2.out
       refine wpList_box rfl 26 (.tmp 1) rfl #[.int .i64 p, .int .i64 r, .int .i64 v] rfl ?_
       intro v2 b h z
       have WB := hid (show BoxAt v2 v1.heap.size 26 #[.int .i64 p, .int .i64 r, .int .i64 v] from b)
       have PB := hid (PB.out.belowAll h)
       have HB := hid (HB.out.trans (h.mono HB.out.size))
       have hsv2 : v1.heap.size + 1 ≤ v2.heap.size := by first | exact h.size | omega
       clear b h z hfl FL2)
    | (have hfl := FL3.out
       refine wpList_new rfl 24 rfl _ Try.zeroEv ?_
       intro v3 b h z
       have RB := hid (show BoxAt v3 v2.heap.size 24 #[.bool false, .slice none 0 0] from b)
       have PB := hid (PB.out.belowAll h)
       have WB := hid (WB.out.belowAll h)
       have HB := hid (HB.out.trans (h.mono HB.out.size))
       have hsv3 : v2.heap.size + 1 ≤ v3.heap.size := by first | exact h.size | omega
       clear b h z hfl FL3
       refine Hid.out ?_)
    | fail)
  refine hid ?_
  go_wp2_with fail
  have PB := hid (BoxAt.drew PB.out)
  have WB := hid (BoxAt.drew WB.out)
  have RB := hid (BoxAt.drew RB.out)
  have HB := hid (HB.out.drew)
  have hsv4 : v3.heap.size ≤ v3.drew.heap.size := Nat.le_refl _
  refine wp_region_held_drew (S := (fun w' : World => BoxAt w' (w.heap.size) 24 #[.bool true, .slice sa M sc])) (by kernel_rfl) (PB.out) (fun hHeld => ?_)
  generalize v3.drew = v4 at *
  refine wpAnyH_take (i := 0) (oi := { dst := some 9, op := Op.fieldAddr 24 (Operand.tmp 3) 0, type := 0, pos := "ref.go:19", after := _, guard := none }) (v := ?_) rfl (by kernel_rfl) (by kernel_rfl) (by kernel_rfl) (fun _ _ _ h => h) (Or.inl ⟨by rfl, ?_⟩) (by assumption) ?_
  rotate_left
  · (intro w hSw; (try dsimp only at hSw); go_simp; try with_reducible rfl)
  simp only [Act.put, List.setIfInBounds_toArray, List.set_cons_zero, List.set_cons_succ]
  refine wpAnyH_take (i := 1) (oi := { dst := some 10, op := Op.load 4 (Operand.tmp 9), type := 4, pos := "ref.go:19", after := _, guard := none }) (v := ?_) rfl (by kernel_rfl) (by kernel_rfl) (by kernel_rfl) (fun _ _ _ h => h) (Or.inl ⟨by rfl, ?_⟩) (by assumption) ?_
  rotate_left
  · (intro W hSw; (try dsimp only at hSw); have hs0S := hSw; have c0_0 : W.cell? ⟨w.heap.size, 0, none⟩ = some (.bool true) := (BoxAt.cell hs0S 0).trans rfl; have c0_1 : W.cell? ⟨w.heap.size, 1, none⟩ = some (.slice sa M sc) := (BoxAt.cell hs0S 1).trans rfl; clear hs0S; go_simp; try with_reducible rfl)
  simp only [Act.put, List.setIfInBounds_toArray, List.set_cons_zero, List.set_cons_succ]
  refine wpAnyH_take (i := 2) (oi := { dst := some 11, op := Op.fieldAddr 24 (Operand.tmp 3) 1, type := 0, pos := "ref.go:19", after := _, guard := none }) (v := ?_) rfl (by kernel_rfl) (by kernel_rfl) (by kernel_rfl) (fun _ _ _ h => h) (Or.inl ⟨by rfl, ?_⟩) (by assumption) ?_
  rotate_left
  · (intro w hSw; (try dsimp only at hSw); go_simp; try with_reducible rfl)
  simp only [Act.put, List.setIfInBounds_toArray, List.set_cons_zero, List.set_cons_succ]
  refine wpAnyH_take (i := 3) (oi := { dst := some 12, op := Op.load 22 (Operand.tmp 11), type := 22, pos := "ref.go:19", after := _, guard := none }) (v := ?_) rfl (by kernel_rfl) (by kernel_rfl) (by kernel_rfl) (fun _ _ _ h => h) (Or.inl ⟨by rfl, ?_⟩) (by assumption) ?_
  rotate_left
  · (intro W hSw; (try dsimp only at hSw); have hs0S := hSw; have c0_0 : W.cell? ⟨w.heap.size, 0, none⟩ = some (.bool true) := (BoxAt.cell hs0S 0).trans rfl; have c0_1 : W.cell? ⟨w.heap.size, 1, none⟩ = some (.slice sa M sc) := (BoxAt.cell hs0S 1).trans rfl; clear hs0S; go_simp; try with_reducible rfl)
  simp only [Act.put, List.setIfInBounds_toArray, List.set_cons_zero, List.set_cons_succ]
  refine wpAnyH_ready (rs := [4, 6]) (by kernel_rfl) (by simp) (AllReadyH.cons (o := { dst := some 13, op := Op.call { callee := Callee.builtin Builtin.append, args := #[Operand.const (Value.slice none 0 0), Operand.tmp 12], argTypes := #[22, 22] }, type := 22, pos := "ref.go:19", after := _, guard := none }) rfl (fun K1005 hK1005 => ?b1005_4) (AllReadyH.cons (o := { dst := some 8, op := Op.alloc 24, type := 0, pos := "ref.go:19", after := _, guard := none }) rfl (fun K1005 hK1005 => ?b1005_6) AllReadyH.nil))
  case' b1005_4 =>
    have HBt := HB.out.size
    refine step_app_nilWt rfl (.tmp 12) rfl _ l rfl (HV.out.below HB.out) (by have := HL.out; omega) ?_
    intro uv5 v5 ho h
    obtain ⟨qv5, rfl, -⟩ := ho.sl
    have PB := hid (PB.out.belowAll h)
    have WB := hid (WB.out.belowAll h)
    have RB := hid (RB.out.belowAll h)
    have HB := hid (HB.out.trans (h.mono HB.out.size))
    have hsv5 : v4.heap.size ≤ v5.heap.size := by first | exact h.size | omega
    have HC := hid ho
    clear ho h
    have HC := hid (HC.out.mono HBt)
    clear HBt
    refine hK1005.out _ _ (PB.out) (fun hHeld1005 => ?_)
    clear hK1005 K1005
    try simp only [Act.put, List.setIfInBounds_toArray, List.set_cons_zero, List.set_cons_succ]
    refine wpAnyH_take (i := 5) (oi := { dst := some 14, op := Op.build 24 #[(0, Operand.tmp 10), (1, Operand.tmp 13)], type := 24, pos := "ref.go:19", after := _, guard := none }) (v := ?_) rfl (by kernel_rfl) (by kernel_rfl) (by kernel_rfl) (fun _ _ _ h => h) (Or.inl ⟨by rfl, ?_⟩) (by assumption) ?_
    rotate_left
    · (intro w hSw; (try dsimp only at hSw); go_simp; try with_reducible rfl)
    simp only [Act.put, List.setIfInBounds_toArray, List.set_cons_zero, List.set_cons_succ]
    refine wpAnyH_ready (rs := [6]) (by kernel_rfl) (by simp) (AllReadyH.cons (o := { dst := some 8, op := Op.alloc 24, type := 0, pos := "ref.go:19", after := _, guard := none }) rfl (fun K1007 hK1007 => ?_) AllReadyH.nil)
    refine step_new rfl 24 rfl _ Try.zeroEv ?_
    intro v6 b h z
    have OB := hid (show BoxAt v6 v5.heap.size 24 #[.bool false, .slice none 0 0] from b)
    have PB := hid (PB.out.belowAll h)
    have WB := hid (WB.out.belowAll h)
    have RB := hid (RB.out.belowAll h)
    have HC := hid (HC.out.below h)
    have HB := hid (HB.out.trans (h.mono HB.out.size))
    have hsv6 : v5.heap.size + 1 ≤ v6.heap.size := by first | exact h.size | omega
    clear b h z
    refine hK1007.out _ _ (PB.out) (fun hHeld1007 => ?_)
    clear hK1007 K1007
    try simp only [Act.put, List.setIfInBounds_toArray, List.set_cons_zero, List.set_cons_succ]
    refine wpAnyH_ready (rs := [7]) (by kernel_rfl) (by simp) (AllReadyH.cons (o := { dst := none, op := Op.store 24 (Operand.tmp 8) (Operand.tmp 14), type := 0, pos := "ref.go:19", after := _, guard := none }) rfl (fun K1008 hK1008 => ?_) AllReadyH.nil)
    refine step_store_whole rfl 24 _ _ rfl (v5.heap.size) rfl [.bool true, .slice qv5.a qv5.n qv5.c] rfl _ _ OB.out rfl Try.infoEv (by simp [Value.oneCell']) ?_
    intro v7 b g z
    have hsv7 : v6.heap.size ≤ v7.heap.size := by omega
    have HC := hid (HC.out.put g OB.out (by decide))
    have OB := hid (show BoxAt v7 (v5.heap.size) 24 #[.bool true, .slice qv5.a qv5.n qv5.c] from b)
    have PB := hid (PB.out.grown g (fun e => by have := Option.some.inj e; omega))
    have WB := hid (WB.out.grown g (fun e => by have := Option.some.inj e; omega))
    have RB := hid (RB.out.grown g (fun e => by have := Option.some.inj e; omega))
    have HB := hid (HB.out.trans (grown_below g (by omega) (by omega)))
    clear b g z
    refine hK1008.out _ _ (PB.out) (fun hHeld1008 => ?_)
    clear hK1008 K1008
    try simp only [Act.put]
    refine wpAnyH_done (by kernel_rfl) ?_ _
    clear hHeld hHeld1005 hHeld1007 hHeld1008
    have kPB0 : v7.cell? ⟨w.heap.size, 0, none⟩ = some (.bool true) := (BoxAt.cell PB.out 0).trans rfl
    have FL4 := hid trivial
    go_wp2_with (first
      | (refine wpList_load_box rfl 24 _ rfl (v5.heap.size) rfl _ _ OB.out _ Try.underlying24 Try.infoEv ?_)
      | (have hfl := FL4.out
         refine wpList_store_whole rfl 24 _ _ rfl rfl (v2.heap.size) rfl [.bool true, .slice qv5.a qv5.n qv5.c] rfl _ _ RB.out rfl Try.infoEv (by simp [Value.oneCell']) ?_
         intro v8 b g z
         have hsv8 : v7.heap.size ≤ v8.heap.size := by omega
         have HC := hid (HC.out.put g RB.out (by decide))
         have RB := hid (show BoxAt v8 (v2.heap.size) 24 #[.bool true, .slice qv5.a qv5.n qv5.c] from b)
         have PB := hid (PB.out.grown g (fun e => by have := Option.some.inj e; omega))
         have WB := hid (WB.out.grown g (fun e => by have := Option.some.inj e; omega))
         have OB := hid (OB.out.grown g (fun e => by have := Option.some.inj e; omega))
         have HB := hid (HB.out.trans (grown_below g (by omega) (by omega)))
         clear kPB0
         have kPB0 : v8.cell? ⟨w.heap.size, 0, none⟩ = some (.bool true) := (BoxAt.cell PB.out 0).trans rfl
         clear b g z hfl FL4)
      | fail)
    refine bodyPost_ret (results_box_tmp rfl _ _ (v2.heap.size) 24 _ (0, 0) _ rfl RB.out Try.underlying24 rfl Try.infoEv) rfl ?_
    exact ⟨qv5, rfl, HC.out, HB.out⟩
  case' b1005_6 =>
    refine step_new rfl 24 rfl _ Try.zeroEv ?_
    intro v5 b h z
    have OB := hid (show BoxAt v5 v4.heap.size 24 #[.bool false, .slice none 0 0] from b)
    have PB := hid (PB.out.belowAll h)
    have WB := hid (WB.out.belowAll h)
    have RB := hid (RB.out.belowAll h)
    have HB := hid (HB.out.trans (h.mono HB.out.size))
    have hsv5 : v4.heap.size + 1 ≤ v5.heap.size := by first | exact h.size | omega
    clear b h z
    refine hK1005.out _ _ (PB.out) (fun hHeld1005 => ?_)
    clear hK1005 K1005
    try simp only [Act.put, List.setIfInBounds_toArray, List.set_cons_zero, List.set_cons_succ]
    refine wpAnyH_ready (rs := [4]) (by kernel_rfl) (by simp) (AllReadyH.cons (o := { dst := some 13, op := Op.call { callee := Callee.builtin Builtin.append, args := #[Operand.const (Value.slice none 0 0), Operand.tmp 12], argTypes := #[22, 22] }, type := 22, pos := "ref.go:19", after := _, guard := none }) rfl (fun K1009 hK1009 => ?_) AllReadyH.nil)
    have HBt := HB.out.size
    refine step_app_nilWt rfl (.tmp 12) rfl _ l rfl (HV.out.below HB.out) (by have := HL.out; omega) ?_
    intro uv6 v6 ho h
    obtain ⟨qv6, rfl, -⟩ := ho.sl
    have PB := hid (PB.out.belowAll h)
    have WB := hid (WB.out.belowAll h)
    have RB := hid (RB.out.belowAll h)
    have OB := hid (OB.out.belowAll h)
    have HB := hid (HB.out.trans (h.mono HB.out.size))
    have hsv6 : v5.heap.size ≤ v6.heap.size := by first | exact h.size | omega
    have HC := hid ho
    clear ho h
    have HC := hid (HC.out.mono HBt)
    clear HBt
    refine hK1009.out _ _ (PB.out) (fun hHeld1009 => ?_)
    clear hK1009 K1009
    try simp only [Act.put, List.setIfInBounds_toArray, List.set_cons_zero, List.set_cons_succ]
    refine wpAnyH_take (i := 5) (oi := { dst := some 14, op := Op.build 24 #[(0, Operand.tmp 10), (1, Operand.tmp 13)], type := 24, pos := "ref.go:19", after := _, guard := none }) (v := ?_) rfl (by kernel_rfl) (by kernel_rfl) (by kernel_rfl) (fun _ _ _ h => h) (Or.inl ⟨by rfl, ?_⟩) (by assumption) ?_
    rotate_left
    · (intro w hSw; (try dsimp only at hSw); go_simp; try with_reducible rfl)
    simp only [Act.put, List.setIfInBounds_toArray, List.set_cons_zero, List.set_cons_succ]
    refine wpAnyH_ready (rs := [7]) (by kernel_rfl) (by simp) (AllReadyH.cons (o := { dst := none, op := Op.store 24 (Operand.tmp 8) (Operand.tmp 14), type := 0, pos := "ref.go:19", after := _, guard := none }) rfl (fun K1011 hK1011 => ?_) AllReadyH.nil)
    refine step_store_whole rfl 24 _ _ rfl (v4.heap.size) rfl [.bool true, .slice qv6.a qv6.n qv6.c] rfl _ _ OB.out rfl Try.infoEv (by simp [Value.oneCell']) ?_
    intro v7 b g z
    have hsv7 : v6.heap.size ≤ v7.heap.size := by omega
    have HC := hid (HC.out.put g OB.out (by decide))
    have OB := hid (show BoxAt v7 (v4.heap.size) 24 #[.bool true, .slice qv6.a qv6.n qv6.c] from b)
    have PB := hid (PB.out.grown g (fun e => by have := Option.some.inj e; omega))
    have WB := hid (WB.out.grown g (fun e => by have := Option.some.inj e; omega))
    have RB := hid (RB.out.grown g (fun e => by have := Option.some.inj e; omega))
    have HB := hid (HB.out.trans (grown_below g (by omega) (by omega)))
    clear b g z
    refine hK1011.out _ _ (PB.out) (fun hHeld1011 => ?_)
    clear hK1011 K1011
    try simp only [Act.put]
    refine wpAnyH_done (by kernel_rfl) ?_ _
    clear hHeld hHeld1005 hHeld1009 hHeld1011
    have kPB0 : v7.cell? ⟨w.heap.size, 0, none⟩ = some (.bool true) := (BoxAt.cell PB.out 0).trans rfl
    have FL4 := hid trivial
    go_wp2_with (first
      | (refine wpList_load_box rfl 24 _ rfl (v4.heap.size) rfl _ _ OB.out _ Try.underlying24 Try.infoEv ?_)
      | (have hfl := FL4.out
         refine wpList_store_whole rfl 24 _ _ rfl rfl (v2.heap.size) rfl [.bool true, .slice qv6.a qv6.n qv6.c] rfl _ _ RB.out rfl Try.infoEv (by simp [Value.oneCell']) ?_
         intro v8 b g z
         have hsv8 : v7.heap.size ≤ v8.heap.size := by omega
         have HC := hid (HC.out.put g RB.out (by decide))
         have RB := hid (show BoxAt v8 (v2.heap.size) 24 #[.bool true, .slice qv6.a qv6.n qv6.c] from b)
         have PB := hid (PB.out.grown g (fun e => by have := Option.some.inj e; omega))
         have WB := hid (WB.out.grown g (fun e => by have := Option.some.inj e; omega))
         have OB := hid (OB.out.grown g (fun e => by have := Option.some.inj e; omega))
         have HB := hid (HB.out.trans (grown_below g (by omega) (by omega)))
         clear kPB0
         have kPB0 : v8.cell? ⟨w.heap.size, 0, none⟩ = some (.bool true) := (BoxAt.cell PB.out 0).trans rfl
         clear b g z hfl FL4)
      | fail)
    refine bodyPost_ret (results_box_tmp rfl _ _ (v2.heap.size) 24 _ (0, 0) _ rfl RB.out Try.underlying24 rfl Try.infoEv) rfl ?_
    exact ⟨qv6, rfl, HC.out, HB.out⟩

set_option maxRecDepth 100000 in
set_option maxHeartbeats 1600000 in
theorem rawait_no {s : Sl} {l : List Wt} (p r v : Int) {w : World} (hs : SeesWt w s.val l) (hl : l.length ≤ 800000) :
    Calls Try.prog 16 #[EvV.val ⟨false, s⟩, .agg #[.int .i64 p, .int .i64 r, .int .i64 v], .bool false] w fun e w' => ∃ (x : Sl), e = .returned (.tuple #[EvV.val ⟨false, x⟩, .int .i64 (2)]) ∧ OWt w' w.heap.size x.val (l) ∧ Below w.heap.size w w' := by
  have HV := hid hs
  obtain ⟨a2, c2, hs1, hc1, hc2, -⟩ := hs.form
  obtain ⟨sa, sn, sc⟩ := s
  simp only [Sl.val, Value.slice.injEq] at hs1
  obtain ⟨rfl, rfl, rfl⟩ := hs1
  unfold maxLen at hc2
  simp only [Sl.val] at HV
  clear hs
  unfold EvV.val
  simp only
  obtain ⟨M, hM⟩ : ∃ M, l.length = M := ⟨_, rfl⟩
  have HM := hid hM
  have HL := hid hl
  rw [hM] at hl hc1 HV ⊢
  clear hM
  have HB := hid (Below.refl w.heap.size w)
  go_enter Try.func16, Try.ntmps16
  have FL1 := hid trivial
  have FL2 := hid trivial
  have FL3 := hid trivial
  go_wp2_with (first
    | (have hfl := FL1.out
       refine wpList_box rfl 24 (.tmp 0) rfl #[.bool false, .slice sa M sc] rfl ?_
       intro v1 b h z
       have PB := hid (show BoxAt v1 w.heap.size 24 #[.bool false, .slice sa M sc] from b)
       have HB := hid (HB.out.trans (h.mono HB.out.size))
       have hsv1 : w.heap.size + 1 ≤ v1.heap.size := by first | exact h.size | omega
       clear b h z hfl FL1)
    | (have hfl := FL2.out
       refine wpList_box rfl 26 (.tmp 1) rfl #[.int .i64 p, .int .i64 r, .int .i64 v] rfl ?_
       intro v2 b h z
       have WB := hid (show BoxAt v2 v1.heap.size 26 #[.int .i64 p, .int .i64 r, .int .i64 v] from b)
       have PB := hid (PB.out.belowAll h)
       have HB := hid (HB.out.trans (h.mono HB.out.size))
       have hsv2 : v1.heap.size + 1 ≤ v2.heap.size := by first | exact h.size | omega
       clear b h z hfl FL2)
    | (have hfl := FL3.out
       refine wpList_new rfl 24 rfl _ Try.zeroEv ?_
       intro v3 b h z
       have RB := hid (show BoxAt v3 v2.heap.size 24 #[.bool false, .slice none 0 0] from b)
       have PB := hid (PB.out.belowAll h)
       have WB := hid (WB.out.belowAll h)
       have HB := hid (HB.out.trans (h.mono HB.out.size))
       have hsv3 : v2.heap.size + 1 ≤ v3.heap.size := by first | exact h.size | omega
       clear b h z hfl FL3
       refine Hid.out ?_)
    | fail)
  refine hid ?_
  go_wp2_with fail
  have PB := hid (BoxAt.drew PB.out)
  have WB := hid (BoxAt.drew WB.out)
  have RB := hid (BoxAt.drew RB.out)
  have HB := hid (HB.out.drew)
  have hsv4 : v3.heap.size ≤ v3.drew.heap.size := Nat.le_refl _
  refine wp_region_held_drew (S := (fun w' : World => BoxAt w' (w.heap.size) 24 #[.bool false, .slice sa M sc])) (by kernel_rfl) (PB.out) (fun hHeld => ?_)
  generalize v3.drew = v4 at *
  refine wpAnyH_take (i := 0) (oi := { dst := some 9, op := Op.fieldAddr 24 (Operand.tmp 3) 0, type := 0, pos := "ref.go:19", after := _, guard := none }) (v := ?_) rfl (by kernel_rfl) (by kernel_rfl) (by kernel_rfl) (fun _ _ _ h => h) (Or.inl ⟨by rfl, ?_⟩) (by assumption) ?_
  rotate_left
  · (intro w hSw; (try dsimp only at hSw); go_simp; try with_reducible rfl)
  simp only [Act.put, List.setIfInBounds_toArray, List.set_cons_zero, List.set_cons_succ]
  refine wpAnyH_take (i := 1) (oi := { dst := some 10, op := Op.load 4 (Operand.tmp 9), type := 4, pos := "ref.go:19", after := _, guard := none }) (v := ?_) rfl (by kernel_rfl) (by kernel_rfl) (by kernel_rfl) (fun _ _ _ h => h) (Or.inl ⟨by rfl, ?_⟩) (by assumption) ?_
  rotate_left
  · (intro W hSw; (try dsimp only at hSw); have hs0S := hSw; have c0_0 : W.cell? ⟨w.heap.size, 0, none⟩ = some (.bool false) := (BoxAt.cell hs0S 0).trans rfl; have c0_1 : W.cell? ⟨w.heap.size, 1, none⟩ = some (.slice sa M sc) := (BoxAt.cell hs0S 1).trans rfl; clear hs0S; go_simp; try with_reducible rfl)
  simp only [Act.put, List.setIfInBounds_toArray, List.set_cons_zero, List.set_cons_succ]
  refine wpAnyH_take (i := 2) (oi := { dst := some 11, op := Op.fieldAddr 24 (Operand.tmp 3) 1, type := 0, pos := "ref.go:19", after := _, guard := none }) (v := ?_) rfl (by kernel_rfl) (by kernel_rfl) (by kernel_rfl) (fun _ _ _ h => h) (Or.inl ⟨by rfl, ?_⟩) (by assumption) ?_
  rotate_left
  · (intro w hSw; (try dsimp only at hSw); go_simp; try with_reducible rfl)
  simp only [Act.put, List.setIfInBounds_toArray, List.set_cons_zero, List.set_cons_succ]
  refine wpAnyH_take (i := 3) (oi := { dst := some 12, op := Op.load 22 (Operand.tmp 11), type := 22, pos := "ref.go:19", after := _, guard := none }) (v := ?_) rfl (by kernel_rfl) (by kernel_rfl) (by kernel_rfl) (fun _ _ _ h => h) (Or.inl ⟨by rfl, ?_⟩) (by assumption) ?_
  rotate_left
  · (intro W hSw; (try dsimp only at hSw); have hs0S := hSw; have c0_0 : W.cell? ⟨w.heap.size, 0, none⟩ = some (.bool false) := (BoxAt.cell hs0S 0).trans rfl; have c0_1 : W.cell? ⟨w.heap.size, 1, none⟩ = some (.slice sa M sc) := (BoxAt.cell hs0S 1).trans rfl; clear hs0S; go_simp; try with_reducible rfl)
  simp only [Act.put, List.setIfInBounds_toArray, List.set_cons_zero, List.set_cons_succ]
  refine wpAnyH_ready (rs := [4, 6]) (by kernel_rfl) (by simp) (AllReadyH.cons (o := { dst := some 13, op := Op.call { callee := Callee.builtin Builtin.append, args := #[Operand.const (Value.slice none 0 0), Operand.tmp 12], argTypes := #[22, 22] }, type := 22, pos := "ref.go:19", after := _, guard := none }) rfl (fun K1005 hK1005 => ?b1005_4) (AllReadyH.cons (o := { dst := some 8, op := Op.alloc 24, type := 0, pos := "ref.go:19", after := _, guard := none }) rfl (fun K1005 hK1005 => ?b1005_6) AllReadyH.nil))
  case' b1005_4 =>
    have HBt := HB.out.size
    refine step_app_nilWt rfl (.tmp 12) rfl _ l rfl (HV.out.below HB.out) (by have := HL.out; omega) ?_
    intro uv5 v5 ho h
    obtain ⟨qv5, rfl, -⟩ := ho.sl
    have PB := hid (PB.out.belowAll h)
    have WB := hid (WB.out.belowAll h)
    have RB := hid (RB.out.belowAll h)
    have HB := hid (HB.out.trans (h.mono HB.out.size))
    have hsv5 : v4.heap.size ≤ v5.heap.size := by first | exact h.size | omega
    have HC := hid ho
    clear ho h
    have HC := hid (HC.out.mono HBt)
    clear HBt
    refine hK1005.out _ _ (PB.out) (fun hHeld1005 => ?_)
    clear hK1005 K1005
    try simp only [Act.put, List.setIfInBounds_toArray, List.set_cons_zero, List.set_cons_succ]
    refine wpAnyH_take (i := 5) (oi := { dst := some 14, op := Op.build 24 #[(0, Operand.tmp 10), (1, Operand.tmp 13)], type := 24, pos := "ref.go:19", after := _, guard := none }) (v := ?_) rfl (by kernel_rfl) (by kernel_rfl) (by kernel_rfl) (fun _ _ _ h => h) (Or.inl ⟨by rfl, ?_⟩) (by assumption) ?_
    rotate_left
    · (intro w hSw; (try dsimp only at hSw); go_simp; try with_reducible rfl)
    simp only [Act.put, List.setIfInBounds_toArray, List.set_cons_zero, List.set_cons_succ]
    refine wpAnyH_ready (rs := [6]) (by kernel_rfl) (by simp) (AllReadyH.cons (o := { dst := some 8, op := Op.alloc 24, type := 0, pos := "ref.go:19", after := _, guard := none }) rfl (fun K1007 hK1007 => ?_) AllReadyH.nil)
    refine step_new rfl 24 rfl _ Try.zeroEv ?_
    intro v6 b h z
    have OB := hid (show BoxAt v6 v5.heap.size 24 #[.bool false, .slice none 0 0] from b)
    have PB := hid (PB.out.belowAll h)
    have WB := hid (WB.out.belowAll h)
    have RB := hid (RB.out.belowAll h)
    have HC := hid (HC.out.below h)
    have HB := hid (HB.out.trans (h.mono HB.out.size))
    have hsv6 : v5.heap.size + 1 ≤ v6.heap.size := by first | exact h.size | omega
    clear b h z
    refine hK1007.out _ _ (PB.out) (fun hHeld1007 => ?_)
    clear hK1007 K1007
    try simp only [Act.put, List.setIfInBounds_toArray, List.set_cons_zero, List.set_cons_succ]
    refine wpAnyH_ready (rs := [7]) (by kernel_rfl) (by simp) (AllReadyH.cons (o := { dst := none, op := Op.store 24 (Operand.tmp 8) (Operand.tmp 14), type := 0, pos := "ref.go:19", after := _, guard := none }) rfl (fun K1008 hK1008 => ?_) AllReadyH.nil)
    refine step_store_whole rfl 24 _ _ rfl (v5.heap.size) rfl [.bool false, .slice qv5.a qv5.n qv5.c] rfl _ _ OB.out rfl Try.infoEv (by simp [Value.oneCell']) ?_
    intro v7 b g z
    have hsv7 : v6.heap.size ≤ v7.heap.size := by omega
    have HC := hid (HC.out.put g OB.out (by decide))
    have OB := hid (show BoxAt v7 (v5.heap.size) 24 #[.bool false, .slice qv5.a qv5.n qv5.c] from b)
    have PB := hid (PB.out.grown g (fun e => by have := Option.some.inj e; omega))
    have WB := hid (WB.out.grown g (fun e => by have := Option.some.inj e; omega))
    have RB := hid (RB.out.grown g (fun e => by have := Option.some.inj e; omega))
    have HB := hid (HB.out.trans (grown_below g (by omega) (by omega)))
    clear b g z
    refine hK1008.out _ _ (PB.out) (fun hHeld1008 => ?_)
    clear hK1008 K1008
    try simp only [Act.put]
    refine wpAnyH_done (by kernel_rfl) ?_ _
    clear hHeld hHeld1005 hHeld1007 hHeld1008
    have kPB0 : v7.cell? ⟨w.heap.size, 0, none⟩ = some (.bool false) := (BoxAt.cell PB.out 0).trans rfl
    have FL4 := hid trivial
    go_wp2_with (first
      | (refine wpList_load_box rfl 24 _ rfl (v5.heap.size) rfl _ _ OB.out _ Try.underlying24 Try.infoEv ?_)
      | (have hfl := FL4.out
         refine wpList_store_whole rfl 24 _ _ rfl rfl (v2.heap.size) rfl [.bool false, .slice qv5.a qv5.n qv5.c] rfl _ _ RB.out rfl Try.infoEv (by simp [Value.oneCell']) ?_
         intro v8 b g z
         have hsv8 : v7.heap.size ≤ v8.heap.size := by omega
         have HC := hid (HC.out.put g RB.out (by decide))
         have RB := hid (show BoxAt v8 (v2.heap.size) 24 #[.bool false, .slice qv5.a qv5.n qv5.c] from b)
         have PB := hid (PB.out.grown g (fun e => by have := Option.some.inj e; omega))
         have WB := hid (WB.out.grown g (fun e => by have := Option.some.inj e; omega))
         have OB := hid (OB.out.grown g (fun e => by have := Option.some.inj e; omega))
         have HB := hid (HB.out.trans (grown_below g (by omega) (by omega)))
         clear kPB0
         have kPB0 : v8.cell? ⟨w.heap.size, 0, none⟩ = some (.bool false) := (BoxAt.cell PB.out 0).trans rfl
         clear b g z hfl FL4)
      | fail)
    refine bodyPost_ret (results_box_tmp rfl _ _ (v2.heap.size) 24 _ (0, 0) _ rfl RB.out Try.underlying24 rfl Try.infoEv) rfl ?_
    exact ⟨qv5, rfl, HC.out, HB.out⟩
  case' b1005_6 =>
    refine step_new rfl 24 rfl _ Try.zeroEv ?_
    intro v5 b h z
    have OB := hid (show BoxAt v5 v4.heap.size 24 #[.bool false, .slice none 0 0] from b)
    have PB := hid (PB.out.belowAll h)
    have WB := hid (WB.out.belowAll h)
    have RB := hid (RB.out.belowAll h)
    have HB := hid (HB.out.trans (h.mono HB.out.size))
    have hsv5 : v4.heap.size + 1 ≤ v5.heap.size := by first | exact h.size | omega
    clear b h z
    refine hK1005.out _ _ (PB.out) (fun hHeld1005 => ?_)
    clear hK1005 K1005
    try simp only [Act.put, List.setIfInBounds_toArray, List.set_cons_zero, List.set_cons_succ]
    refine wpAnyH_ready (rs := [4]) (by kernel_rfl) (by simp) (AllReadyH.cons (o := { dst := some 13, op := Op.call { callee := Callee.builtin Builtin.append, args := #[Operand.const (Value.slice none 0 0), Operand.tmp 12], argTypes := #[22, 22] }, type := 22, pos := "ref.go:19", after := _, guard := none }) rfl (fun K1009 hK1009 => ?_) AllReadyH.nil)
    have HBt := HB.out.size
    refine step_app_nilWt rfl (.tmp 12) rfl _ l rfl (HV.out.below HB.out) (by have := HL.out; omega) ?_
    intro uv6 v6 ho h
    obtain ⟨qv6, rfl, -⟩ := ho.sl
    have PB := hid (PB.out.belowAll h)
    have WB := hid (WB.out.belowAll h)
    have RB := hid (RB.out.belowAll h)
    have OB := hid (OB.out.belowAll h)
    have HB := hid (HB.out.trans (h.mono HB.out.size))
    have hsv6 : v5.heap.size ≤ v6.heap.size := by first | exact h.size | omega
    have HC := hid ho
    clear ho h
    have HC := hid (HC.out.mono HBt)
    clear HBt
    refine hK1009.out _ _ (PB.out) (fun hHeld1009 => ?_)
    clear hK1009 K1009
    try simp only [Act.put, List.setIfInBounds_toArray, List.set_cons_zero, List.set_cons_succ]
    refine wpAnyH_take (i := 5) (oi := { dst := some 14, op := Op.build 24 #[(0, Operand.tmp 10), (1, Operand.tmp 13)], type := 24, pos := "ref.go:19", after := _, guard := none }) (v := ?_) rfl (by kernel_rfl) (by kernel_rfl) (by kernel_rfl) (fun _ _ _ h => h) (Or.inl ⟨by rfl, ?_⟩) (by assumption) ?_
    rotate_left
    · (intro w hSw; (try dsimp only at hSw); go_simp; try with_reducible rfl)
    simp only [Act.put, List.setIfInBounds_toArray, List.set_cons_zero, List.set_cons_succ]
    refine wpAnyH_ready (rs := [7]) (by kernel_rfl) (by simp) (AllReadyH.cons (o := { dst := none, op := Op.store 24 (Operand.tmp 8) (Operand.tmp 14), type := 0, pos := "ref.go:19", after := _, guard := none }) rfl (fun K1011 hK1011 => ?_) AllReadyH.nil)
    refine step_store_whole rfl 24 _ _ rfl (v4.heap.size) rfl [.bool false, .slice qv6.a qv6.n qv6.c] rfl _ _ OB.out rfl Try.infoEv (by simp [Value.oneCell']) ?_
    intro v7 b g z
    have hsv7 : v6.heap.size ≤ v7.heap.size := by omega
    have HC := hid (HC.out.put g OB.out (by decide))
    have OB := hid (show BoxAt v7 (v4.heap.size) 24 #[.bool false, .slice qv6.a qv6.n qv6.c] from b)
    have PB := hid (PB.out.grown g (fun e => by have := Option.some.inj e; omega))
    have WB := hid (WB.out.grown g (fun e => by have := Option.some.inj e; omega))
    have RB := hid (RB.out.grown g (fun e => by have := Option.some.inj e; omega))
    have HB := hid (HB.out.trans (grown_below g (by omega) (by omega)))
    clear b g z
    refine hK1011.out _ _ (PB.out) (fun hHeld1011 => ?_)
    clear hK1011 K1011
    try simp only [Act.put]
    refine wpAnyH_done (by kernel_rfl) ?_ _
    clear hHeld hHeld1005 hHeld1009 hHeld1011
    have kPB0 : v7.cell? ⟨w.heap.size, 0, none⟩ = some (.bool false) := (BoxAt.cell PB.out 0).trans rfl
    have FL4 := hid trivial
    go_wp2_with (first
      | (refine wpList_load_box rfl 24 _ rfl (v4.heap.size) rfl _ _ OB.out _ Try.underlying24 Try.infoEv ?_)
      | (have hfl := FL4.out
         refine wpList_store_whole rfl 24 _ _ rfl rfl (v2.heap.size) rfl [.bool false, .slice qv6.a qv6.n qv6.c] rfl _ _ RB.out rfl Try.infoEv (by simp [Value.oneCell']) ?_
         intro v8 b g z
         have hsv8 : v7.heap.size ≤ v8.heap.size := by omega
         have HC := hid (HC.out.put g RB.out (by decide))
         have RB := hid (show BoxAt v8 (v2.heap.size) 24 #[.bool false, .slice qv6.a qv6.n qv6.c] from b)
         have PB := hid (PB.out.grown g (fun e => by have := Option.some.inj e; omega))
         have WB := hid (WB.out.grown g (fun e => by have := Option.some.inj e; omega))
         have OB := hid (OB.out.grown g (fun e => by have := Option.some.inj e; omega))
         have HB := hid (HB.out.trans (grown_below g (by omega) (by omega)))
         clear kPB0
         have kPB0 : v8.cell? ⟨w.heap.size, 0, none⟩ = some (.bool false) := (BoxAt.cell PB.out 0).trans rfl
         clear b g z hfl FL4)
      | fail)
    refine bodyPost_ret (results_box_tmp rfl _ _ (v2.heap.size) 24 _ (0, 0) _ rfl RB.out Try.underlying24 rfl Try.infoEv) rfl ?_
    exact ⟨qv6, rfl, HC.out, HB.out⟩

set_option maxRecDepth 100000 in
set_option maxHeartbeats 1600000 in
theorem rawait_yes {s : Sl} {l : List Wt} (p r v : Int) {w : World} (hs : SeesWt w s.val l) (hl : l.length ≤ 800000) :
    Calls Try.prog 16 #[EvV.val ⟨false, s⟩, .agg #[.int .i64 p, .int .i64 r, .int .i64 v], .bool true] w fun e w' => ∃ (x : Sl), e = .returned (.tuple #[EvV.val ⟨false, x⟩, .int .i64 (6)]) ∧ OWt w' w.heap.size x.val (addP l ⟨p, r, v⟩ false) ∧ Below w.heap.size w w' := by
  have HV := hid hs
  obtain ⟨a2, c2, hs1, hc1, hc2, -⟩ := hs.form
  obtain ⟨sa, sn, sc⟩ := s
  simp only [Sl.val, Value.slice.injEq] at hs1
  obtain ⟨rfl, rfl, rfl⟩ := hs1
  unfold maxLen at hc2
  simp only [Sl.val] at HV
  clear hs
  unfold EvV.val
  simp only
  obtain ⟨M, hM⟩ : ∃ M, l.length = M := ⟨_, rfl⟩
  have HM := hid hM
  have HL := hid hl
  rw [hM] at hl hc1 HV ⊢
  clear hM
  have HB := hid (Below.refl w.heap.size w)
  go_enter Try.func16, Try.ntmps16
  have FL1 := hid trivial
  have FL2 := hid trivial
  have FL3 := hid trivial
  go_wp2_with (first
    | (have hfl := FL1.out
       refine wpList_box rfl 24 (.tmp 0) rfl #[.bool false, .slice sa M sc] rfl ?_
       intro v1 b h z
       have PB := hid (show BoxAt v1 w.heap.size 24 #[.bool false, .slice sa M sc] from b)
       have HB := hid (HB.out.trans (h.mono HB.out.size))
       have hsv1 : w.heap.size + 1 ≤ v1.heap.size := by first | exact h.size | omega
       clear b h z hfl FL1)
    | (have hfl := FL2.out
       refine wpList_box rfl 26 (.tmp 1) rfl #[.int .i64 p, .int .i64 r, .int .i64 v] rfl ?_
       intro v2 b h z
       have WB := hid (show BoxAt v2 v1.heap.size 26 #[.int .i64 p, .int .i64 r, .int .i64 v] from b)
       have PB := hid (PB.out.belowAll h)
       have HB := hid (HB.out.trans (h.mono HB.out.size))
       have hsv2 : v1.heap.size + 1 ≤ v2.heap.size := by first | exact h.size | omega
       clear b h z hfl FL2)
    | (have hfl := FL3.out
       refine wpList_new rfl 24 rfl _ Try.zeroEv ?_
       intro v3 b h z
       have RB := hid (show BoxAt v3 v2.heap.size 24 #[.bool false, .slice none 0 0] from b)
       have PB := hid (PB.out.belowAll h)
       have WB := hid (WB.out.belowAll h)
       have HB := hid (HB.out.trans (h.mono HB.out.size))
       have hsv3 : v2.heap.size + 1 ≤ v3.heap.size := by first | exact h.size | omega
       clear b h z hfl FL3
       refine Hid.out ?_)
    | fail)
  refine hid ?_
  go_wp2_with fail
  have PB := hid (BoxAt.drew PB.out)
  have WB := hid (BoxAt.drew WB.out)
  have RB := hid (BoxAt.drew RB.out)
  have HB := hid (HB.out.drew)
  have hsv4 : v3.heap.size ≤ v3.drew.heap.size := Nat.le_refl _
  refine wp_region_held_drew (S := (fun w' : World => BoxAt w' (w.heap.size) 24 #[.bool false, .slice sa M sc])) (by kernel_rfl) (PB.out) (fun hHeld => ?_)
  generalize v3.drew = v4 at *
  refine wpAnyH_take (i := 0) (oi := { dst := some 9, op := Op.fieldAddr 24 (Operand.tmp 3) 0, type := 0, pos := "ref.go:19", after := _, guard := none }) (v := ?_) rfl (by kernel_rfl) (by kernel_rfl) (by kernel_rfl) (fun _ _ _ h => h) (Or.inl ⟨by rfl, ?_⟩) (by assumption) ?_
  rotate_left
  · (intro w hSw; (try dsimp only at hSw); go_simp; try with_reducible rfl)
  simp only [Act.put, List.setIfInBounds_toArray, List.set_cons_zero, List.set_cons_succ]
  refine wpAnyH_take (i := 1) (oi := { dst := some 10, op := Op.load 4 (Operand.tmp 9), type := 4, pos := "ref.go:19", after := _, guard := none }) (v := ?_) rfl (by kernel_rfl) (by kernel_rfl) (by kernel_rfl) (fun _ _ _ h => h) (Or.inl ⟨by rfl, ?_⟩) (by assumption) ?_
  rotate_left
  · (intro W hSw; (try dsimp only at hSw); have hs0S := hSw; have c0_0 : W.cell? ⟨w.heap.size, 0, none⟩ = some (.bool false) := (BoxAt.cell hs0S 0).trans rfl; have c0_1 : W.cell? ⟨w.heap.size, 1, none⟩ = some (.slice sa M sc) := (BoxAt.cell hs0S 1).trans rfl; clear hs0S; go_simp; try with_reducible rfl)
  simp only [Act.put, List.setIfInBounds_toArray, List.set_cons_zero, List.set_cons_succ]
  refine wpAnyH_take (i := 2) (oi := { dst := some 11, op := Op.fieldAddr 24 (Operand.tmp 3) 1, type := 0, pos := "ref.go:19", after := _, guard := none }) (v := ?_) rfl (by kernel_rfl) (by kernel_rfl) (by kernel_rfl) (fun _ _ _ h => h) (Or.inl ⟨by rfl, ?_⟩) (by assumption) ?_
  rotate_left
  · (intro w hSw; (try dsimp only at hSw); go_simp; try with_reducible rfl)
  simp only [Act.put, List.setIfInBounds_toArray, List.set_cons_zero, List.set_cons_succ]
  refine wpAnyH_take (i := 3) (oi := { dst := some 12, op := Op.load 22 (Operand.tmp 11), type := 22, pos := "ref.go:19", after := _, guard := none }) (v := ?_) rfl (by kernel_rfl) (by kernel_rfl) (by kernel_rfl) (fun _ _ _ h => h) (Or.inl ⟨by rfl, ?_⟩) (by assumption) ?_
  rotate_left
  · (intro W hSw; (try dsimp only at hSw); have hs0S := hSw; have c0_0 : W.cell? ⟨w.heap.size, 0, none⟩ = some (.bool false) := (BoxAt.cell hs0S 0).trans rfl; have c0_1 : W.cell? ⟨w.heap.size, 1, none⟩ = some (.slice sa M sc) := (BoxAt.cell hs0S 1).trans rfl; clear hs0S; go_simp; try with_reducible rfl)
  simp only [Act.put, List.setIfInBounds_toArray, List.set_cons_zero, List.set_cons_succ]
  refine wpAnyH_ready (rs := [4, 6]) (by kernel_rfl) (by simp) (AllReadyH.cons (o := { dst := some 13, op := Op.call { callee := Callee.builtin Builtin.append, args := #[Operand.const (Value.slice none 0 0), Operand.tmp 12], argTypes := #[22, 22] }, type := 22, pos := "ref.go:19", after := _, guard := none }) rfl (fun K1005 hK1005 => ?b1005_4) (AllReadyH.cons (o := { dst := some 8, op := Op.alloc 24, type := 0, pos := "ref.go:19", after := _, guard := none }) rfl (fun K1005 hK1005 => ?b1005_6) AllReadyH.nil))
  case' b1005_4 =>
    have HBt := HB.out.size
    refine step_app_nilWt rfl (.tmp 12) rfl _ l rfl (HV.out.below HB.out) (by have := HL.out; omega) ?_
    intro uv5 v5 ho h
    obtain ⟨qv5, rfl, -⟩ := ho.sl
    have PB := hid (PB.out.belowAll h)
    have WB := hid (WB.out.belowAll h)
    have RB := hid (RB.out.belowAll h)
    have HB := hid (HB.out.trans (h.mono HB.out.size))
    have hsv5 : v4.heap.size ≤ v5.heap.size := by first | exact h.size | omega
    have HC := hid ho
    clear ho h
    have HC := hid (HC.out.mono HBt)
    clear HBt
    refine hK1005.out _ _ (PB.out) (fun hHeld1005 => ?_)
    clear hK1005 K1005
    try simp only [Act.put, List.setIfInBounds_toArray, List.set_cons_zero, List.set_cons_succ]
    refine wpAnyH_take (i := 5) (oi := { dst := some 14, op := Op.build 24 #[(0, Operand.tmp 10), (1, Operand.tmp 13)], type := 24, pos := "ref.go:19", after := _, guard := none }) (v := ?_) rfl (by kernel_rfl) (by kernel_rfl) (by kernel_rfl) (fun _ _ _ h => h) (Or.inl ⟨by rfl, ?_⟩) (by assumption) ?_
    rotate_left
    · (intro w hSw; (try dsimp only at hSw); go_simp; try with_reducible rfl)
    simp only [Act.put, List.setIfInBounds_toArray, List.set_cons_zero, List.set_cons_succ]
    refine wpAnyH_ready (rs := [6]) (by kernel_rfl) (by simp) (AllReadyH.cons (o := { dst := some 8, op := Op.alloc 24, type := 0, pos := "ref.go:19", after := _, guard := none }) rfl (fun K1007 hK1007 => ?_) AllReadyH.nil)
    refine step_new rfl 24 rfl _ Try.zeroEv ?_
    intro v6 b h z
    have OB := hid (show BoxAt v6 v5.heap.size 24 #[.bool false, .slice none 0 0] from b)
    have PB := hid (PB.out.belowAll h)
    have WB := hid (WB.out.belowAll h)
    have RB := hid (RB.out.belowAll h)
    have HC := hid (HC.out.below h)
    have HB := hid (HB.out.trans (h.mono HB.out.size))
    have hsv6 : v5.heap.size + 1 ≤ v6.heap.size := by first | exact h.size | omega
    clear b h z
    refine hK1007.out _ _ (PB.out) (fun hHeld1007 => ?_)
    clear hK1007 K1007
    try simp only [Act.put, List.setIfInBounds_toArray, List.set_cons_zero, List.set_cons_succ]
    refine wpAnyH_ready (rs := [7]) (by kernel_rfl) (by simp) (AllReadyH.cons (o := { dst := none, op := Op.store 24 (Operand.tmp 8) (Operand.tmp 14), type := 0, pos := "ref.go:19", after := _, guard := none }) rfl (fun K1008 hK1008 => ?_) AllReadyH.nil)
    refine step_store_whole rfl 24 _ _ rfl (v5.heap.size) rfl [.bool false, .slice qv5.a qv5.n qv5.c] rfl _ _ OB.out rfl Try.infoEv (by simp [Value.oneCell']) ?_
    intro v7 b g z
    have hsv7 : v6.heap.size ≤ v7.heap.size := by omega
    have HC := hid (HC.out.put g OB.out (by decide))
    have OB := hid (show BoxAt v7 (v5.heap.size) 24 #[.bool false, .slice qv5.a qv5.n qv5.c] from b)
    have PB := hid (PB.out.grown g (fun e => by have := Option.some.inj e; omega))
    have WB := hid (WB.out.grown g (fun e => by have := Option.some.inj e; omega))
    have RB := hid (RB.out.grown g (fun e => by have := Option.some.inj e; omega))
    have HB := hid (HB.out.trans (grown_below g (by omega) (by omega)))
    clear b g z
    refine hK1008.out _ _ (PB.out) (fun hHeld1008 => ?_)
    clear hK1008 K1008
    try simp only [Act.put]
    refine wpAnyH_done (by kernel_rfl) ?_ _
    clear hHeld hHeld1005 hHeld1007 hHeld1008
    have kPB0 : v7.cell? ⟨w.heap.size, 0, none⟩ = some (.bool false) := (BoxAt.cell PB.out 0).trans rfl
    have kPB1 : v7.cell? ⟨w.heap.size, 1, none⟩ = some (.slice sa M sc) := (BoxAt.cell PB.out 1).trans rfl
    have kWB0 : v7.cell? ⟨v1.heap.size, 0, none⟩ = some (.int .i64 p) := (BoxAt.cell WB.out 0).trans rfl
    have kWB1 : v7.cell? ⟨v1.heap.size, 1, none⟩ = some (.int .i64 r) := (BoxAt.cell WB.out 1).trans rfl
    have kWB2 : v7.cell? ⟨v1.heap.size, 2, none⟩ = some (.int .i64 v) := (BoxAt.cell WB.out 2).trans rfl
    go_wp2_with (first
      | (refine wpList_load_box rfl 26 _ rfl (v1.heap.size) rfl _ _ WB.out _ Try.underlying26 Try.infoWt ?_)
      | fail)
    have HBt := HB.out.size
    refine (radd_any ⟨p, r, v⟩ false (HV.out.below HB.out) (by have := HL.out; omega)).mono ?_
    rintro e v8 ⟨uu, rfl, hu, hb⟩
    have PB := hid (PB.out.belowAll hb)
    have WB := hid (WB.out.belowAll hb)
    have RB := hid (RB.out.belowAll hb)
    have OB := hid (OB.out.belowAll hb)
    have HC := hid (HC.out.below hb)
    have HB := hid (HB.out.trans (hb.mono HB.out.size))
    have hsv8 : v7.heap.size ≤ v8.heap.size := by first | exact hb.size | omega
    obtain ⟨y, rfl, -⟩ := hu.sl
    have HY := hid (hu.mono HBt)
    clear hu HBt HC
    clear kPB0 kPB1 kWB0 kWB1 kWB2
    have kPB0 : v8.cell? ⟨w.heap.size, 0, none⟩ = some (.bool false) := (BoxAt.cell PB.out 0).trans rfl
    have kPB1 : v8.cell? ⟨w.heap.size, 1, none⟩ = some (.slice sa M sc) := (BoxAt.cell PB.out 1).trans rfl
    have kWB0 : v8.cell? ⟨v1.heap.size, 0, none⟩ = some (.int .i64 p) := (BoxAt.cell WB.out 0).trans rfl
    have kWB1 : v8.cell? ⟨v1.heap.size, 1, none⟩ = some (.int .i64 r) := (BoxAt.cell WB.out 1).trans rfl
    have kWB2 : v8.cell? ⟨v1.heap.size, 2, none⟩ = some (.int .i64 v) := (BoxAt.cell WB.out 2).trans rfl
    clear hb
    have FL4 := hid trivial
    have FL5 := hid trivial
    go_wp2_with (first
      | (have hfl := FL4.out
         refine wpList_store_box rfl 22 _ _ rfl rfl (v5.heap.size) 1 (.slice y.a y.n y.c) rfl rfl rfl rfl (by kernel_rfl) _ _ OB.out (by simp) ?_
         intro v9 b g z
         have hsv9 : v8.heap.size ≤ v9.heap.size := by omega
         have HY := hid (HY.out.put g OB.out (by decide))
         have OB := hid (show BoxAt v9 (v5.heap.size) 24 #[.bool false, .slice y.a y.n y.c] from by simpa using b)
         have PB := hid (PB.out.grown g (fun e => by have := Option.some.inj e; omega))
         have WB := hid (WB.out.grown g (fun e => by have := Option.some.inj e; omega))
         have RB := hid (RB.out.grown g (fun e => by have := Option.some.inj e; omega))
         have HB := hid (HB.out.trans (grown_below g (by omega) (by omega)))
         clear kPB0 kPB1 kWB0 kWB1 kWB2
         have kPB0 : v9.cell? ⟨w.heap.size, 0, none⟩ = some (.bool false) := (BoxAt.cell PB.out 0).trans rfl
         have kPB1 : v9.cell? ⟨w.heap.size, 1, none⟩ = some (.slice sa M sc) := (BoxAt.cell PB.out 1).trans rfl
         have kWB0 : v9.cell? ⟨v1.heap.size, 0, none⟩ = some (.int .i64 p) := (BoxAt.cell WB.out 0).trans rfl
         have kWB1 : v9.cell? ⟨v1.heap.size, 1, none⟩ = some (.int .i64 r) := (BoxAt.cell WB.out 1).trans rfl
         have kWB2 : v9.cell? ⟨v1.heap.size, 2, none⟩ = some (.int .i64 v) := (BoxAt.cell WB.out 2).trans rfl
         clear b g z hfl FL4)
      | (refine wpList_load_box rfl 24 _ rfl (v5.heap.size) rfl _ _ OB.out _ Try.underlying24 Try.infoEv ?_)
      | (have hfl := FL5.out
         refine wpList_store_whole rfl 24 _ _ rfl rfl (v2.heap.size) rfl [.bool false, .slice y.a y.n y.c] rfl _ _ RB.out rfl Try.infoEv (by simp [Value.oneCell']) ?_
         intro v10 b g z
         have hsv10 : v9.heap.size ≤ v10.heap.size := by omega
         have HY := hid (HY.out.put g RB.out (by decide))
         have RB := hid (show BoxAt v10 (v2.heap.size) 24 #[.bool false, .slice y.a y.n y.c] from b)
         have PB := hid (PB.out.grown g (fun e => by have := Option.some.inj e; omega))
         have WB := hid (WB.out.grown g (fun e => by have := Option.some.inj e; omega))
         have OB := hid (OB.out.grown g (fun e => by have := Option.some.inj e; omega))
         have HB := hid (HB.out.trans (grown_below g (by omega) (by omega)))
         clear kPB0 kPB1 kWB0 kWB1 kWB2
         have kPB0 : v10.cell? ⟨w.heap.size, 0, none⟩ = some (.bool false) := (BoxAt.cell PB.out 0).trans rfl
         have kPB1 : v10.cell? ⟨w.heap.size, 1, none⟩ = some (.slice sa M sc) := (BoxAt.cell PB.out 1).trans rfl
         have kWB0 : v10.cell? ⟨v1.heap.size, 0, none⟩ = some (.int .i64 p) := (BoxAt.cell WB.out 0).trans rfl
         have kWB1 : v10.cell? ⟨v1.heap.size, 1, none⟩ = some (.int .i64 r) := (BoxAt.cell WB.out 1).trans rfl
         have kWB2 : v10.cell? ⟨v1.heap.size, 2, none⟩ = some (.int .i64 v) := (BoxAt.cell WB.out 2).trans rfl
         clear b g z hfl FL5)
      | fail)
    refine bodyPost_ret (results_box_tmp rfl _ _ (v2.heap.size) 24 _ (0, 0) _ rfl RB.out Try.underlying24 rfl Try.infoEv) rfl ?_
    exact ⟨y, rfl, HY.out, HB.out⟩
  case' b1005_6 =>
    refine step_new rfl 24 rfl _ Try.zeroEv ?_
    intro v5 b h z
    have OB := hid (show BoxAt v5 v4.heap.size 24 #[.bool false, .slice none 0 0] from b)
    have PB := hid (PB.out.belowAll h)
    have WB := hid (WB.out.belowAll h)
    have RB := hid (RB.out.belowAll h)
    have HB := hid (HB.out.trans (h.mono HB.out.size))
    have hsv5 : v4.heap.size + 1 ≤ v5.heap.size := by first | exact h.size | omega
    clear b h z
    refine hK1005.out _ _ (PB.out) (fun hHeld1005 => ?_)
    clear hK1005 K1005
    try simp only [Act.put, List.setIfInBounds_toArray, List.set_cons_zero, List.set_cons_succ]
    refine wpAnyH_ready (rs := [4]) (by kernel_rfl) (by simp) (AllReadyH.cons (o := { dst := some 13, op := Op.call { callee := Callee.builtin Builtin.append, args := #[Operand.const (Value.slice none 0 0), Operand.tmp 12], argTypes := #[22, 22] }, type := 22, pos := "ref.go:19", after := _, guard := none }) rfl (fun K1009 hK1009 => ?_) AllReadyH.nil)
    have HBt := HB.out.size
    refine step_app_nilWt rfl (.tmp 12) rfl _ l rfl (HV.out.below HB.out) (by have := HL.out; omega) ?_
    intro uv6 v6 ho h
    obtain ⟨qv6, rfl, -⟩ := ho.sl
    have PB := hid (PB.out.belowAll h)
    have WB := hid (WB.out.belowAll h)
    have RB := hid (RB.out.belowAll h)
    have OB := hid (OB.out.belowAll h)
    have HB := hid (HB.out.trans (h.mono HB.out.size))
    have hsv6 : v5.heap.size ≤ v6.heap.size := by first | exact h.size | omega
    have HC := hid ho
    clear ho h
    have HC := hid (HC.out.mono HBt)
    clear HBt
    refine hK1009.out _ _ (PB.out) (fun hHeld1009 => ?_)
    clear hK1009 K1009
    try simp only [Act.put, List.setIfInBounds_toArray, List.set_cons_zero, List.set_cons_succ]
    refine wpAnyH_take (i := 5) (oi := { dst := some 14, op := Op.build 24 #[(0, Operand.tmp 10), (1, Operand.tmp 13)], type := 24, pos := "ref.go:19", after := _, guard := none }) (v := ?_) rfl (by kernel_rfl) (by kernel_rfl) (by kernel_rfl) (fun _ _ _ h => h) (Or.inl ⟨by rfl, ?_⟩) (by assumption) ?_
    rotate_left
    · (intro w hSw; (try dsimp only at hSw); go_simp; try with_reducible rfl)
    simp only [Act.put, List.setIfInBounds_toArray, List.set_cons_zero, List.set_cons_succ]
    refine wpAnyH_ready (rs := [7]) (by kernel_rfl) (by simp) (AllReadyH.cons (o := { dst := none, op := Op.store 24 (Operand.tmp 8) (Operand.tmp 14), type := 0, pos := "ref.go:19", after := _, guard := none }) rfl (fun K1011 hK1011 => ?_) AllReadyH.nil)
    refine step_store_whole rfl 24 _ _ rfl (v4.heap.size) rfl [.bool false, .slice qv6.a qv6.n qv6.c] rfl _ _ OB.out rfl Try.infoEv (by simp [Value.oneCell']) ?_
    intro v7 b g z
    have hsv7 : v6.heap.size ≤ v7.heap.size := by omega
    have HC := hid (HC.out.put g OB.out (by decide))
    have OB := hid (show BoxAt v7 (v4.heap.size) 24 #[.bool false, .slice qv6.a qv6.n qv6.c] from b)
    have PB := hid (PB.out.grown g (fun e => by have := Option.some.inj e; omega))
    have WB := hid (WB.out.grown g (fun e => by have := Option.some.inj e; omega))
    have RB := hid (RB.out.grown g (fun e => by have := Option.some.inj e; omega))
    have HB := hid (HB.out.trans (grown_below g (by omega) (by omega)))
    clear b g z
    refine hK1011.out _ _ (PB.out) (fun hHeld1011 => ?_)
    clear hK1011 K1011
    try simp only [Act.put]
    refine wpAnyH_done (by kernel_rfl) ?_ _
    clear hHeld hHeld1005 hHeld1009 hHeld1011
    have kPB0 : v7.cell? ⟨w.heap.size, 0, none⟩ = some (.bool false) := (BoxAt.cell PB.out 0).trans rfl
    have kPB1 : v7.cell? ⟨w.heap.size, 1, none⟩ = some (.slice sa M sc) := (BoxAt.cell PB.out 1).trans rfl
    have kWB0 : v7.cell? ⟨v1.heap.size, 0, none⟩ = some (.int .i64 p) := (BoxAt.cell WB.out 0).trans rfl
    have kWB1 : v7.cell? ⟨v1.heap.size, 1, none⟩ = some (.int .i64 r) := (BoxAt.cell WB.out 1).trans rfl
    have kWB2 : v7.cell? ⟨v1.heap.size, 2, none⟩ = some (.int .i64 v) := (BoxAt.cell WB.out 2).trans rfl
    go_wp2_with (first
      | (refine wpList_load_box rfl 26 _ rfl (v1.heap.size) rfl _ _ WB.out _ Try.underlying26 Try.infoWt ?_)
      | fail)
    have HBt := HB.out.size
    refine (radd_any ⟨p, r, v⟩ false (HV.out.below HB.out) (by have := HL.out; omega)).mono ?_
    rintro e v8 ⟨uu, rfl, hu, hb⟩
    have PB := hid (PB.out.belowAll hb)
    have WB := hid (WB.out.belowAll hb)
    have RB := hid (RB.out.belowAll hb)
    have OB := hid (OB.out.belowAll hb)
    have HC := hid (HC.out.below hb)
    have HB := hid (HB.out.trans (hb.mono HB.out.size))
    have hsv8 : v7.heap.size ≤ v8.heap.size := by first | exact hb.size | omega
    obtain ⟨y, rfl, -⟩ := hu.sl
    have HY := hid (hu.mono HBt)
    clear hu HBt HC
    clear kPB0 kPB1 kWB0 kWB1 kWB2
    have kPB0 : v8.cell? ⟨w.heap.size, 0, none⟩ = some (.bool false) := (BoxAt.cell PB.out 0).trans rfl
    have kPB1 : v8.cell? ⟨w.heap.size, 1, none⟩ = some (.slice sa M sc) := (BoxAt.cell PB.out 1).trans rfl
    have kWB0 : v8.cell? ⟨v1.heap.size, 0, none⟩ = some (.int .i64 p) := (BoxAt.cell WB.out 0).trans rfl
    have kWB1 : v8.cell? ⟨v1.heap.size, 1, none⟩ = some (.int .i64 r) := (BoxAt.cell WB.out 1).trans rfl
    have kWB2 : v8.cell? ⟨v1.heap.size, 2, none⟩ = some (.int .i64 v) := (BoxAt.cell WB.out 2).trans rfl
    clear hb
    have FL4 := hid trivial
    have FL5 := hid trivial
    go_wp2_with (first
      | (have hfl := FL4.out
         refine wpList_store_box rfl 22 _ _ rfl rfl (v4.heap.size) 1 (.slice y.a y.n y.c) rfl rfl rfl rfl (by kernel_rfl) _ _ OB.out (by simp) ?_
         intro v9 b g z
         have hsv9 : v8.heap.size ≤ v9.heap.size := by omega
         have HY := hid (HY.out.put g OB.out (by decide))
         have OB := hid (show BoxAt v9 (v4.heap.size) 24 #[.bool false, .slice y.a y.n y.c] from by simpa using b)
         have PB := hid (PB.out.grown g (fun e => by have := Option.some.inj e; omega))
         have WB := hid (WB.out.grown g (fun e => by have := Option.some.inj e; omega))
         have RB := hid (RB.out.grown g (fun e => by have := Option.some.inj e; omega))
         have HB := hid (HB.out.trans (grown_below g (by omega) (by omega)))
         clear kPB0 kPB1 kWB0 kWB1 kWB2
         have kPB0 : v9.cell? ⟨w.heap.size, 0, none⟩ = some (.bool false) := (BoxAt.cell PB.out 0).trans rfl
         have kPB1 : v9.cell? ⟨w.heap.size, 1, none⟩ = some (.slice sa M sc) := (BoxAt.cell PB.out 1).trans rfl
         have kWB0 : v9.cell? ⟨v1.heap.size, 0, none⟩ = some (.int .i64 p) := (BoxAt.cell WB.out 0).trans rfl
         have kWB1 : v9.cell? ⟨v1.heap.size, 1, none⟩ = some (.int .i64 r) := (BoxAt.cell WB.out 1).trans rfl
         have kWB2 : v9.cell? ⟨v1.heap.size, 2, none⟩ = some (.int .i64 v) := (BoxAt.cell WB.out 2).trans rfl
         clear b g z hfl FL4)
      | (refine wpList_load_box rfl 24 _ rfl (v4.heap.size) rfl _ _ OB.out _ Try.underlying24 Try.infoEv ?_)
      | (have hfl := FL5.out
         refine wpList_store_whole rfl 24 _ _ rfl rfl (v2.heap.size) rfl [.bool false, .slice y.a y.n y.c] rfl _ _ RB.out rfl Try.infoEv (by simp [Value.oneCell']) ?_
         intro v10 b g z
         have hsv10 : v9.heap.size ≤ v10.heap.size := by omega
         have HY := hid (HY.out.put g RB.out (by decide))
         have RB := hid (show BoxAt v10 (v2.heap.size) 24 #[.bool false, .slice y.a y.n y.c] from b)
         have PB := hid (PB.out.grown g (fun e => by have := Option.some.inj e; omega))
         have WB := hid (WB.out.grown g (fun e => by have := Option.some.inj e; omega))
         have OB := hid (OB.out.grown g (fun e => by have := Option.some.inj e; omega))
         have HB := hid (HB.out.trans (grown_below g (by omega) (by omega)))
         clear kPB0 kPB1 kWB0 kWB1 kWB2
         have kPB0 : v10.cell? ⟨w.heap.size, 0, none⟩ = some (.bool false) := (BoxAt.cell PB.out 0).trans rfl
         have kPB1 : v10.cell? ⟨w.heap.size, 1, none⟩ = some (.slice sa M sc) := (BoxAt.cell PB.out 1).trans rfl
         have kWB0 : v10.cell? ⟨v1.heap.size, 0, none⟩ = some (.int .i64 p) := (BoxAt.cell WB.out 0).trans rfl
         have kWB1 : v10.cell? ⟨v1.heap.size, 1, none⟩ = some (.int .i64 r) := (BoxAt.cell WB.out 1).trans rfl
         have kWB2 : v10.cell? ⟨v1.heap.size, 2, none⟩ = some (.int .i64 v) := (BoxAt.cell WB.out 2).trans rfl
         clear b g z hfl FL5)
      | fail)
    refine bodyPost_ret (results_box_tmp rfl _ _ (v2.heap.size) 24 _ (0, 0) _ rfl RB.out Try.underlying24 rfl Try.infoEv) rfl ?_
    exact ⟨y, rfl, HY.out, HB.out⟩

theorem rawait_any (k : Bool) {s : Sl} {l : List Wt} (p r v : Int) (may : Bool) {w : World} (hs : SeesWt w s.val l) (hl : l.length ≤ 800000) :
    Calls Try.prog 16 #[EvV.val ⟨k, s⟩, .agg #[.int .i64 p, .int .i64 r, .int .i64 v], .bool may] w fun e w' => ∃ (x : Sl), e = .returned (.tuple #[EvV.val ⟨k, x⟩, .int .i64 (awC k may)]) ∧ OWt w' w.heap.size x.val (awL k may l ⟨p, r, v⟩) ∧ Below w.heap.size w w' := by
  cases k
  · cases may
    · exact rawait_no p r v hs hl
    · exact rawait_yes p r v hs hl
  · exact rawait_up p r v may hs hl


set_option maxRecDepth 100000 in
set_option maxHeartbeats 1600000 in
theorem rsame_any (k : Bool) {s r : Sl} {l : List Wt} {w : World} (hs : SeesWt w s.val l) (hr : SeesWt w r.val l) :
    Calls Try.prog 11 #[EvV.val ⟨k, s⟩, EvV.val ⟨k, r⟩] w fun e w' => e = .returned (.bool true) ∧ Below w.heap.size w w' := by
  have HS := hid hs
  have HR := hid hr
  clear hs hr
  unfold EvV.val
  simp only
  have hii : (k == k) = true := by cases k <;> rfl
  have HB := hid (Below.refl w.heap.size w)
  go_enter Try.func11, Try.ntmps11
  have FL1 := hid trivial
  have FL2 := hid trivial
  go_wp2_with (first
    | (have hfl := FL1.out
       refine wpList_box rfl 24 (.tmp 0) rfl #[.bool k, .slice s.a s.n s.c] rfl ?_
       intro v1 b h z
       have PA := hid (show BoxAt v1 w.heap.size 24 #[.bool k, .slice s.a s.n s.c] from b)
       have HB := hid (HB.out.trans (h.mono HB.out.size))
       have hsv1 : w.heap.size + 1 ≤ v1.heap.size := by first | exact h.size | omega
       clear b h z hfl FL1)
    | (have hfl := FL2.out
       refine wpList_box rfl 24 (.tmp 1) rfl #[.bool k, .slice r.a r.n r.c] rfl ?_
       intro v2 b h z
       have PB := hid (show BoxAt v2 v1.heap.size 24 #[.bool k, .slice r.a r.n r.c] from b)
       have PA := hid (PA.out.belowAll h)
       have HB := hid (HB.out.trans (h.mono HB.out.size))
       have hsv2 : v1.heap.size + 1 ≤ v2.heap.size := by first | exact h.size | omega
       clear b h z hfl FL2
       refine Hid.out ?_)
    | fail)
  refine hid ?_
  have kPA0 : v2.cell? ⟨w.heap.size, 0, none⟩ = some (.bool k) := (BoxAt.cell PA.out 0).trans rfl
  have kPA1 : v2.cell? ⟨w.heap.size, 1, none⟩ = some (.slice s.a s.n s.c) := (BoxAt.cell PA.out 1).trans rfl
  have kPB0 : v2.cell? ⟨v1.heap.size, 0, none⟩ = some (.bool k) := (BoxAt.cell PB.out 0).trans rfl
  have kPB1 : v2.cell? ⟨v1.heap.size, 1, none⟩ = some (.slice r.a r.n r.c) := (BoxAt.cell PB.out 1).trans rfl
  go_wp2_with fail
  refine (same_Wt (HS.out.below HB.out) (HR.out.below HB.out)).mono ?_
  rintro e v3 ⟨rfl, hb⟩
  have PA := hid (PA.out.belowAll hb)
  have PB := hid (PB.out.belowAll hb)
  have HB := hid (HB.out.trans (hb.mono HB.out.size))
  have hsv3 : v2.heap.size ≤ v3.heap.size := by first | exact hb.size | omega
  clear kPA0 kPA1 kPB0 kPB1
  have kPA0 : v3.cell? ⟨w.heap.size, 0, none⟩ = some (.bool k) := (BoxAt.cell PA.out 0).trans rfl
  have kPA1 : v3.cell? ⟨w.heap.size, 1, none⟩ = some (.slice s.a s.n s.c) := (BoxAt.cell PA.out 1).trans rfl
  have kPB0 : v3.cell? ⟨v1.heap.size, 0, none⟩ = some (.bool k) := (BoxAt.cell PB.out 0).trans rfl
  have kPB1 : v3.cell? ⟨v1.heap.size, 1, none⟩ = some (.slice r.a r.n r.c) := (BoxAt.cell PB.out 1).trans rfl
  clear hb
  go_wp2
  go_ret
  exact ⟨rfl, HB.out⟩

end Go.Proofs.Ytgnjnhfimagbpaa
