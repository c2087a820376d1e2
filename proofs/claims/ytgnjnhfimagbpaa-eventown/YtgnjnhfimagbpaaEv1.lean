/-
  What Set, Reset and Await of an event return.
-/
import Derived.Test.YtgnjnhfimagbpaaEvSide
namespace Go.Proofs.Ytgnjnhfimagbpaa
open Go.RowKit
set_option linter.unusedVariables false


def awC (k may : Bool) : Int := if k then 0 else if may then 6 else 2
def awL (k may : Bool) (l : List Wt) (y : Wt) : List Wt := if k then l else if may then addP l y false else l


set_option maxRecDepth 100000 in
set_option maxHeartbeats 1600000 in
theorem set_any (k : Bool) {s : Sl} {l : List Wt} {w : World} (hs : SeesWt w s.val l) (hl : l.length ≤ 800000) :
    Calls Try.prog 9 #[EvV.val ⟨k, s⟩] w fun e w' => ∃ (q : Sl), e = .returned (.tuple #[EvV.val ⟨true, ⟨none, 0, 0⟩⟩, q.val]) ∧ OWk w' w.heap.size q.val (allP l 0 0) ∧ Below w.heap.size w w' := by
  have HV := hid hs
  obtain ⟨a2, c2, hs1, hc1, hc2, -⟩ := hs.form
  obtain ⟨sa, sn, sc⟩ := s
  simp only [Sl.val, Value.slice.injEq] at hs1
  obtain ⟨rfl, rfl, rfl⟩ := hs1
  unfold maxLen at hc2
  simp only [Sl.val] at HV
  clear hs
  unfold EvV.val
  simp only
  obtain ⟨M, hM⟩ : ∃ M, l.length = M := ⟨_, rfl⟩
  have HM := hid hM
  have HL := hid hl
  rw [hM] at hl hc1 HV ⊢
  clear hM
  have HB := hid (Below.refl w.heap.size w)
  go_enter Try.func9, Try.ntmps9
  have FL1 := hid trivial
  have FL2 := hid trivial
  go_wp2_with (first
    | (have hfl := FL1.out
       refine wpList_box rfl 24 (.tmp 0) rfl #[.bool k, .slice sa M sc] rfl ?_
       intro v1 b h z
       have PB := hid (show BoxAt v1 w.heap.size 24 #[.bool k, .slice sa M sc] from b)
       have HB := hid (HB.out.trans (h.mono HB.out.size))
       have hsv1 : w.heap.size + 1 ≤ v1.heap.size := by first | exact h.size | omega
       clear b h z hfl FL1)
    | (have hfl := FL2.out
       refine wpList_new rfl 24 rfl _ Try.zeroEv ?_
       intro v2 b h z
       have RB := hid (show BoxAt v2 v1.heap.size 24 #[.bool false, .slice none 0 0] from b)
       have PB := hid (PB.out.belowAll h)
       have HB := hid (HB.out.trans (h.mono HB.out.size))
       have hsv2 : v1.heap.size + 1 ≤ v2.heap.size := by first | exact h.size | omega
       clear b h z hfl FL2
       refine Hid.out ?_)
    | fail)
  refine hid ?_
  go_wp2_with fail
  have PB := hid (BoxAt.drew PB.out)
  have RB := hid (BoxAt.drew RB.out)
  have HB := hid (HB.out.drew)
  have hsv3 : v2.heap.size ≤ v2.drew.heap.size := Nat.le_refl _
  refine wp_region_held_drew (S := (fun w' : World => BoxAt w' (w.heap.size) 24 #[.bool k, .slice sa M sc])) (by kernel_rfl) (PB.out) (fun hHeld => ?_)
  generalize v2.drew = v3 at *
  refine wpAnyH_take (i := 0) (oi := { dst := some 4, op := Op.load 24 (Operand.tmp 1), type := 24, pos := "event.go:16", after := _, guard := none }) (v := ?_) rfl (by kernel_rfl) (by kernel_rfl) (by kernel_rfl) (fun _ _ _ h => h) (Or.inl ⟨by rfl, ?_⟩) (by assumption) ?_
  rotate_left
  · (intro W hSw; (try dsimp only at hSw); have hs0S := hSw; have c0_0 : W.cell? ⟨w.heap.size, 0, none⟩ = some (.bool k) := (BoxAt.cell hs0S 0).trans rfl; have c0_1 : W.cell? ⟨w.heap.size, 1, none⟩ = some (.slice sa M sc) := (BoxAt.cell hs0S 1).trans rfl; clear hs0S; go_simp; try with_reducible rfl)
  simp only [Act.put, List.setIfInBounds_toArray, List.set_cons_zero, List.set_cons_succ]
  refine wpAnyH_take (i := 5) (oi := { dst := some 9, op := Op.fieldAddr 24 (Operand.tmp 1) 1, type := 0, pos := "event.go:16", after := _, guard := none }) (v := ?_) rfl (by kernel_rfl) (by kernel_rfl) (by kernel_rfl) (fun _ _ _ h => h) (Or.inl ⟨by rfl, ?_⟩) (by assumption) ?_
  rotate_left
  · (intro w hSw; (try dsimp only at hSw); go_simp; try with_reducible rfl)
  simp only [Act.put, List.setIfInBounds_toArray, List.set_cons_zero, List.set_cons_succ]
  refine wpAnyH_take (i := 6) (oi := { dst := some 10, op := Op.load 22 (Operand.tmp 9), type := 22, pos := "event.go:16", after := _, guard := none }) (v := ?_) rfl (by kernel_rfl) (by kernel_rfl) (by kernel_rfl) (fun _ _ _ h => h) (Or.inl ⟨by rfl, ?_⟩) (by assumption) ?_
  rotate_left
  · (intro W hSw; (try dsimp only at hSw); have hs0S := hSw; have c0_0 : W.cell? ⟨w.heap.size, 0, none⟩ = some (.bool k) := (BoxAt.cell hs0S 0).trans rfl; have c0_1 : W.cell? ⟨w.heap.size, 1, none⟩ = some (.slice sa M sc) := (BoxAt.cell hs0S 1).trans rfl; clear hs0S; go_simp; try with_reducible rfl)
  simp only [Act.put, List.setIfInBounds_toArray, List.set_cons_zero, List.set_cons_succ]
  refine wpAnyH_ready (rs := [1]) (by kernel_rfl) (by simp) (AllReadyH.cons (o := { dst := some 5, op := Op.call { callee := Callee.value (Operand.func 18), args := #[Operand.const (Value.bool true)], argTypes := #[4] }, type := 49, pos := "event.go:16", after := _, guard := none }) rfl (fun K1004 hK1004 => ?_) AllReadyH.nil)
  go_simp
  refine (up_any true _).mono ?_
  rintro e v4 ⟨P1, rfl, hl, hb⟩
  have PB := hid (PB.out.belowAll hb)
  have RB := hid (RB.out.belowAll hb)
  have HB := hid (HB.out.trans (hb.mono HB.out.size))
  have hsv4 : v3.heap.size ≤ v4.heap.size := by first | exact hb.size | omega
  have HS1 := hid hl
  clear hl
  clear hb
  refine hK1004.out _ _ (PB.out) (fun hHeld1004 => ?_)
  clear hK1004 K1004
  try simp only [Act.put, List.setIfInBounds_toArray, List.set_cons_zero, List.set_cons_succ]
  refine wpAnyH_ready (rs := [2]) (by kernel_rfl) (by simp) (AllReadyH.cons (o := { dst := some 6, op := Op.call { callee := Callee.value (Operand.func 19), args := #[Operand.const (Value.slice none 0 0)], argTypes := #[22] }, type := 49, pos := "event.go:16", after := _, guard := none }) rfl (fun K1005 hK1005 => ?_) AllReadyH.nil)
  go_simp
  refine (aw_any ⟨none, 0, 0⟩ _).mono ?_
  rintro e v5 ⟨P2, rfl, hl, hb⟩
  have PB := hid (PB.out.belowAll hb)
  have RB := hid (RB.out.belowAll hb)
  have HS1 := hid (HS1.out.below hb)
  have HB := hid (HB.out.trans (hb.mono HB.out.size))
  have hsv5 : v4.heap.size ≤ v5.heap.size := by first | exact hb.size | omega
  have HS2 := hid hl
  clear hl
  clear hb
  refine hK1005.out _ _ (PB.out) (fun hHeld1005 => ?_)
  clear hK1005 K1005
  try simp only [Act.put, List.setIfInBounds_toArray, List.set_cons_zero, List.set_cons_succ]
  refine wpAnyH_ready (rs := [3]) (by kernel_rfl) (by simp) (AllReadyH.cons (o := { dst := some 7, op := Op.buildSlice 55 2 #[(0, Operand.tmp 5), (1, Operand.tmp 6)], type := 55, pos := "event.go:16", after := _, guard := none }) rfl (fun K1006 hK1006 => ?_) AllReadyH.nil)
  refine step_side2 rfl (.tmp 5) (.tmp 6) rfl (Side.up true P1) (Side.aw ⟨none, 0, 0⟩ P2) rfl rfl ?_
  intro v6 b h
  have LB := hid (show BoxAt v6 v5.heap.size 49 #[(Side.up true P1).val, (Side.aw ⟨none, 0, 0⟩ P2).val] from b)
  have hlsv6 : v5.heap.size + 1 ≤ v6.heap.size := b.lt
  have PB := hid (PB.out.belowAll h)
  have RB := hid (RB.out.belowAll h)
  have HS1 := hid (HS1.out.below h)
  have HS2 := hid (HS2.out.below h)
  have HB := hid (HB.out.trans (h.mono HB.out.size))
  have hsv6 : v5.heap.size ≤ v6.heap.size := by first | exact h.size | omega
  clear b h
  refine hK1006.out _ _ (PB.out) (fun hHeld1006 => ?_)
  clear hK1006 K1006
  try simp only [Act.put, List.setIfInBounds_toArray, List.set_cons_zero, List.set_cons_succ]
  refine wpAnyH_ready (rs := [4]) (by kernel_rfl) (by simp) (AllReadyH.cons (o := { dst := some 8, op := Op.call { callee := Callee.value (Operand.func 17), args := #[Operand.tmp 4, Operand.tmp 7], argTypes := #[24, 55] }, type := 24, pos := "event.go:16", after := _, guard := none }) rfl (fun K1007 hK1007 => ?_) AllReadyH.nil)
  have HBt := HB.out.size
  go_simp
  refine (with_any k (s := ⟨sa, M, sc⟩) (HV.out.below HB.out) (by have := HL.out; omega) (SidesAt.two LB.out HS1.out HS2.out) (by simp)).mono ?_
  rintro e v7 ⟨x, rfl, hu, hb⟩
  have PB := hid (PB.out.belowAll hb)
  have RB := hid (RB.out.belowAll hb)
  have LB := hid (LB.out.belowAll hb)
  have HS1 := hid (HS1.out.below hb)
  have HS2 := hid (HS2.out.below hb)
  have HB := hid (HB.out.trans (hb.mono HB.out.size))
  have hsv7 : v6.heap.size ≤ v7.heap.size := by first | exact hb.size | omega
  rw [show EvV.val ([Side.up true P1, Side.aw ⟨none, 0, 0⟩ P2].foldl Side.tell ⟨k, x⟩) = .agg #[.bool true, .slice none 0 0] from rfl]
  clear hu HBt LB HS1 HS2
  clear hb
  refine hK1007.out _ _ (PB.out) (fun hHeld1007 => ?_)
  clear hK1007 K1007
  try simp only [Act.put, List.setIfInBounds_toArray, List.set_cons_zero, List.set_cons_succ]
  refine wpAnyH_ready (rs := [7]) (by kernel_rfl) (by simp) (AllReadyH.cons (o := { dst := some 11, op := Op.call { callee := Callee.value (Operand.func 20), args := #[Operand.tmp 10, Operand.const (Value.int IntKind.i64 0), Operand.const (Value.int IntKind.i64 0)], argTypes := #[22, 3, 3] }, type := 28, pos := "event.go:16", after := _, guard := none }) rfl (fun K1008 hK1008 => ?_) AllReadyH.nil)
  have HBt := HB.out.size
  go_simp
  refine (all_any 0 0 (HV.out.below HB.out) (by have := HL.out; omega)).mono ?_
  rintro e v8 ⟨uu, rfl, hu, hb⟩
  have PB := hid (PB.out.belowAll hb)
  have RB := hid (RB.out.belowAll hb)
  have HB := hid (HB.out.trans (hb.mono HB.out.size))
  have hsv8 : v7.heap.size ≤ v8.heap.size := by first | exact hb.size | omega
  obtain ⟨q, rfl, -⟩ := hu.sl
  have HQ := hid (hu.mono HBt)
  clear hu HBt
  clear hb
  refine hK1008.out _ _ (PB.out) (fun hHeld1008 => ?_)
  clear hK1008 K1008
  try simp only [Act.put, List.setIfInBounds_toArray, List.set_cons_zero, List.set_cons_succ]
  refine wpAnyH_ready (rs := [8]) (by kernel_rfl) (by simp) (AllReadyH.cons (o := { dst := none, op := Op.store 24 (Operand.tmp 2) (Operand.tmp 8), type := 0, pos := "event.go:16", after := _, guard := none }) rfl (fun K1009 hK1009 => ?_) AllReadyH.nil)
  refine step_store_whole rfl 24 _ _ rfl (v1.heap.size) rfl [.bool true, .slice none 0 0] rfl _ _ RB.out rfl Try.infoEv (by simp [Value.oneCell']) ?_
  intro v9 b g z
  have hsv9 : v8.heap.size ≤ v9.heap.size := by omega
  have HQ := hid (HQ.out.put g RB.out (by decide))
  have RB := hid (show BoxAt v9 (v1.heap.size) 24 #[.bool true, .slice none 0 0] from b)
  have PB := hid (PB.out.grown g (fun e => by have := Option.some.inj e; omega))
  have HB := hid (HB.out.trans (grown_below g (by omega) (by omega)))
  clear b g z
  refine hK1009.out _ _ (PB.out) (fun hHeld1009 => ?_)
  clear hK1009 K1009
  try simp only [Act.put]
  refine wpAnyH_take (i := 9) (oi := { dst := some 3, op := Op.assign (Operand.tmp 11), type := 28, pos := "event.go:16", after := _, guard := none }) (v := ?_) rfl (by kernel_rfl) (by kernel_rfl) (by kernel_rfl) (fun _ _ _ h => h) (Or.inl ⟨by rfl, ?_⟩) (by assumption) ?_
  rotate_left
  · (intro w hSw; (try dsimp only at hSw); go_simp; try with_reducible rfl)
  simp only [Act.put, List.setIfInBounds_toArray, List.set_cons_zero, List.set_cons_succ]
  refine wpAnyH_done (by kernel_rfl) ?_ _
  clear hHeld hHeld1004 hHeld1005 hHeld1006 hHeld1007 hHeld1008 hHeld1009
  go_wp2
  refine bodyPost_ret (results_box_tmp rfl _ _ (v1.heap.size) 24 _ (0, 0) _ rfl RB.out Try.underlying24 rfl Try.infoEv) rfl ?_
  exact ⟨q, rfl, HQ.out, HB.out⟩

set_option maxRecDepth 100000 in
set_option maxHeartbeats 1600000 in
theorem reset_any (k : Bool) {s : Sl} {l : List Wt} {w : World} (hs : SeesWt w s.val l) (hl : l.length ≤ 800000) :
    Calls Try.prog 13 #[EvV.val ⟨k, s⟩] w fun e w' => ∃ (x : Sl), e = .returned (EvV.val ⟨false, x⟩) ∧ OWt w' w.heap.size x.val l ∧ Below w.heap.size w w' := by
  have HV := hid hs
  obtain ⟨a2, c2, hs1, hc1, hc2, -⟩ := hs.form
  obtain ⟨sa, sn, sc⟩ := s
  simp only [Sl.val, Value.slice.injEq] at hs1
  obtain ⟨rfl, rfl, rfl⟩ := hs1
  unfold maxLen at hc2
  simp only [Sl.val] at HV
  clear hs
  unfold EvV.val
  simp only
  obtain ⟨M, hM⟩ : ∃ M, l.length = M := ⟨_, rfl⟩
  have HM := hid hM
  have HL := hid hl
  rw [hM] at hl hc1 HV ⊢
  clear hM
  have HB := hid (Below.refl w.heap.size w)
  go_enter Try.func13, Try.ntmps13
  have FL1 := hid trivial
  have FL2 := hid trivial
  go_wp2_with (first
    | (have hfl := FL1.out
       refine wpList_box rfl 24 (.tmp 0) rfl #[.bool k, .slice sa M sc] rfl ?_
       intro v1 b h z
       have PB := hid (show BoxAt v1 w.heap.size 24 #[.bool k, .slice sa M sc] from b)
       have HB := hid (HB.out.trans (h.mono HB.out.size))
       have hsv1 : w.heap.size + 1 ≤ v1.heap.size := by first | exact h.size | omega
       clear b h z hfl FL1)
    | (have hfl := FL2.out
       refine wpList_new rfl 24 rfl _ Try.zeroEv ?_
       intro v2 b h z
       have RB := hid (show BoxAt v2 v1.heap.size 24 #[.bool false, .slice none 0 0] from b)
       have PB := hid (PB.out.belowAll h)
       have HB := hid (HB.out.trans (h.mono HB.out.size))
       have hsv2 : v1.heap.size + 1 ≤ v2.heap.size := by first | exact h.size | omega
       clear b h z hfl FL2
       refine Hid.out ?_)
    | fail)
  refine hid ?_
  go_wp2_with fail
  have PB := hid (BoxAt.drew PB.out)
  have RB := hid (BoxAt.drew RB.out)
  have HB := hid (HB.out.drew)
  have hsv3 : v2.heap.size ≤ v2.drew.heap.size := Nat.le_refl _
  refine wp_region_held_drew (S := (fun w' : World => BoxAt w' (w.heap.size) 24 #[.bool k, .slice sa M sc])) (by kernel_rfl) (PB.out) (fun hHeld => ?_)
  generalize v2.drew = v3 at *
  refine wpAnyH_take (i := 0) (oi := { dst := some 3, op := Op.load 24 (Operand.tmp 1), type := 24, pos := "event.go:20", after := _, guard := none }) (v := ?_) rfl (by kernel_rfl) (by kernel_rfl) (by kernel_rfl) (fun _ _ _ h => h) (Or.inl ⟨by rfl, ?_⟩) (by assumption) ?_
  rotate_left
  · (intro W hSw; (try dsimp only at hSw); have hs0S := hSw; have c0_0 : W.cell? ⟨w.heap.size, 0, none⟩ = some (.bool k) := (BoxAt.cell hs0S 0).trans rfl; have c0_1 : W.cell? ⟨w.heap.size, 1, none⟩ = some (.slice sa M sc) := (BoxAt.cell hs0S 1).trans rfl; clear hs0S; go_simp; try with_reducible rfl)
  simp only [Act.put, List.setIfInBounds_toArray, List.set_cons_zero, List.set_cons_succ]
  refine wpAnyH_ready (rs := [1]) (by kernel_rfl) (by simp) (AllReadyH.cons (o := { dst := some 4, op := Op.call { callee := Callee.value (Operand.func 18), args := #[Operand.const (Value.bool false)], argTypes := #[4] }, type := 49, pos := "event.go:20", after := _, guard := none }) rfl (fun K1002 hK1002 => ?_) AllReadyH.nil)
  go_simp
  refine (up_any false _).mono ?_
  rintro e v4 ⟨P1, rfl, hl, hb⟩
  have PB := hid (PB.out.belowAll hb)
  have RB := hid (RB.out.belowAll hb)
  have HB := hid (HB.out.trans (hb.mono HB.out.size))
  have hsv4 : v3.heap.size ≤ v4.heap.size := by first | exact hb.size | omega
  have HS1 := hid hl
  clear hl
  clear hb
  refine hK1002.out _ _ (PB.out) (fun hHeld1002 => ?_)
  clear hK1002 K1002
  try simp only [Act.put, List.setIfInBounds_toArray, List.set_cons_zero, List.set_cons_succ]
  refine wpAnyH_ready (rs := [2]) (by kernel_rfl) (by simp) (AllReadyH.cons (o := { dst := some 5, op := Op.buildSlice 55 1 #[(0, Operand.tmp 4)], type := 55, pos := "event.go:20", after := _, guard := none }) rfl (fun K1003 hK1003 => ?_) AllReadyH.nil)
  refine step_side1 rfl (.tmp 4) rfl (Side.up false P1) rfl ?_
  intro v5 b h
  have LB := hid (show BoxAt v5 v4.heap.size 49 #[(Side.up false P1).val] from b)
  have hlsv5 : v4.heap.size + 1 ≤ v5.heap.size := b.lt
  have PB := hid (PB.out.belowAll h)
  have RB := hid (RB.out.belowAll h)
  have HS1 := hid (HS1.out.below h)
  have HB := hid (HB.out.trans (h.mono HB.out.size))
  have hsv5 : v4.heap.size ≤ v5.heap.size := by first | exact h.size | omega
  clear b h
  refine hK1003.out _ _ (PB.out) (fun hHeld1003 => ?_)
  clear hK1003 K1003
  try simp only [Act.put, List.setIfInBounds_toArray, List.set_cons_zero, List.set_cons_succ]
  refine wpAnyH_ready (rs := [3]) (by kernel_rfl) (by simp) (AllReadyH.cons (o := { dst := some 6, op := Op.call { callee := Callee.value (Operand.func 17), args := #[Operand.tmp 3, Operand.tmp 5], argTypes := #[24, 55] }, type := 24, pos := "event.go:20", after := _, guard := none }) rfl (fun K1004 hK1004 => ?_) AllReadyH.nil)
  have HBt := HB.out.size
  go_simp
  refine (with_any k (s := ⟨sa, M, sc⟩) (HV.out.below HB.out) (by have := HL.out; omega) (SidesAt.one LB.out HS1.out) (by simp)).mono ?_
  rintro e v6 ⟨x, rfl, hu, hb⟩
  have PB := hid (PB.out.belowAll hb)
  have RB := hid (RB.out.belowAll hb)
  have LB := hid (LB.out.belowAll hb)
  have HS1 := hid (HS1.out.below hb)
  have HB := hid (HB.out.trans (hb.mono HB.out.size))
  have hsv6 : v5.heap.size ≤ v6.heap.size := by first | exact hb.size | omega
  rw [show EvV.val ([Side.up false P1].foldl Side.tell ⟨k, x⟩) = .agg #[.bool false, .slice x.a x.n x.c] from rfl]
  have HX := hid (hu.mono HBt)
  clear hu HBt LB HS1
  clear hb
  refine hK1004.out _ _ (PB.out) (fun hHeld1004 => ?_)
  clear hK1004 K1004
  try simp only [Act.put, List.setIfInBounds_toArray, List.set_cons_zero, List.set_cons_succ]
  refine wpAnyH_ready (rs := [4]) (by kernel_rfl) (by simp) (AllReadyH.cons (o := { dst := none, op := Op.store 24 (Operand.tmp 2) (Operand.tmp 6), type := 0, pos := "event.go:20", after := _, guard := none }) rfl (fun K1005 hK1005 => ?_) AllReadyH.nil)
  refine step_store_whole rfl 24 _ _ rfl (v1.heap.size) rfl [.bool false, .slice x.a x.n x.c] rfl _ _ RB.out rfl Try.infoEv (by simp [Value.oneCell']) ?_
  intro v7 b g z
  have hsv7 : v6.heap.size ≤ v7.heap.size := by omega
  have HX := hid (HX.out.put g RB.out (by decide))
  have RB := hid (show BoxAt v7 (v1.heap.size) 24 #[.bool false, .slice x.a x.n x.c] from b)
  have PB := hid (PB.out.grown g (fun e => by have := Option.some.inj e; omega))
  have HB := hid (HB.out.trans (grown_below g (by omega) (by omega)))
  clear b g z
  refine hK1005.out _ _ (PB.out) (fun hHeld1005 => ?_)
  clear hK1005 K1005
  try simp only [Act.put]
  refine wpAnyH_done (by kernel_rfl) ?_ _
  clear hHeld hHeld1002 hHeld1003 hHeld1004 hHeld1005
  go_wp2
  refine bodyPost_ret (results_cell_row rfl _ _ (v1.heap.size) 24 _ (0, 0) _ rfl RB.out Try.underlying24 rfl Try.infoEv) rfl ?_
  exact ⟨x, rfl, HX.out, HB.out⟩

set_option maxRecDepth 100000 in
set_option maxHeartbeats 1600000 in
theorem await_up {s : Sl} {l : List Wt} (p r v : Int) (may : Bool) {w : World} (hs : SeesWt w s.val l) (hl : l.length ≤ 800000) :
    Calls Try.prog 15 #[EvV.val ⟨true, s⟩, .agg #[.int .i64 p, .int .i64 r, .int .i64 v], .bool may] w fun e w' => ∃ (x : Sl), e = .returned (.tuple #[EvV.val ⟨true, x⟩, .int .i64 (0)]) ∧ OWt w' w.heap.size x.val (l) ∧ Below w.heap.size w w' := by
  have HV := hid hs
  obtain ⟨a2, c2, hs1, hc1, hc2, -⟩ := hs.form
  obtain ⟨sa, sn, sc⟩ := s
  simp only [Sl.val, Value.slice.injEq] at hs1
  obtain ⟨rfl, rfl, rfl⟩ := hs1
  unfold maxLen at hc2
  simp only [Sl.val] at HV
  clear hs
  unfold EvV.val
  simp only
  obtain ⟨M, hM⟩ : ∃ M, l.length = M := ⟨_, rfl⟩
  have HM := hid hM
  have HL := hid hl
  rw [hM] at hl hc1 HV ⊢
  clear hM
  have HB := hid (Below.refl w.heap.size w)
  go_enter Try.func15, Try.ntmps15
  have FL1 := hid trivial
  have FL2 := hid trivial
  have FL3 := hid trivial
  go_wp2_with (first
    | (have hfl := FL1.out
       refine wpList_box rfl 24 (.tmp 0) rfl #[.bool true, .slice sa M sc] rfl ?_
       intro v1 b h z
       have PB := hid (show BoxAt v1 w.heap.size 24 #[.bool true, .slice sa M sc] from b)
       have HB := hid (HB.out.trans (h.mono HB.out.size))
       have hsv1 : w.heap.size + 1 ≤ v1.heap.size := by first | exact h.size | omega
       clear b h z hfl FL1)
    | (have hfl := FL2.out
       refine wpList_box rfl 26 (.tmp 1) rfl #[.int .i64 p, .int .i64 r, .int .i64 v] rfl ?_
       intro v2 b h z
       have WB := hid (show BoxAt v2 v1.heap.size 26 #[.int .i64 p, .int .i64 r, .int .i64 v] from b)
       have PB := hid (PB.out.belowAll h)
       have HB := hid (HB.out.trans (h.mono HB.out.size))
       have hsv2 : v1.heap.size + 1 ≤ v2.heap.size := by first | exact h.size | omega
       have kPB0 : v2.cell? ⟨w.heap.size, 0, none⟩ = some (.bool true) := (BoxAt.cell PB.out 0).trans rfl
       clear b h z hfl FL2)
    | (have hfl := FL3.out
       refine wpList_new rfl 24 rfl _ Try.zeroEv ?_
       intro v3 b h z
       have RB := hid (show BoxAt v3 v2.heap.size 24 #[.bool false, .slice none 0 0] from b)
       have PB := hid (PB.out.belowAll h)
       have WB := hid (WB.out.belowAll h)
       have HB := hid (HB.out.trans (h.mono HB.out.size))
       have hsv3 : v2.heap.size + 1 ≤ v3.heap.size := by first | exact h.size | omega
       clear kPB0
       have kPB0 : v3.cell? ⟨w.heap.size, 0, none⟩ = some (.bool true) := (BoxAt.cell PB.out 0).trans rfl
       clear b h z hfl FL3
       refine Hid.out ?_)
    | fail)
  refine hid ?_
  clear kPB0
  have kPB0 : v3.cell? ⟨w.heap.size, 0, none⟩ = some (.bool true) := (BoxAt.cell PB.out 0).trans rfl
  go_wp2_with (first
    | (refine wpList_load_box rfl 24 _ rfl (w.heap.size) rfl _ _ PB.out _ Try.underlying24 Try.infoEv ?_)
    | fail)
  have HBt := HB.out.size
  refine (with_any true (s := ⟨sa, M, sc⟩) (HV.out.below HB.out) (by have := HL.out; omega) (SidesAt.nil _) (by simp)).mono ?_
  rintro e v4 ⟨x, rfl, hu, hb⟩
  have PB := hid (PB.out.belowAll hb)
  have WB := hid (WB.out.belowAll hb)
  have RB := hid (RB.out.belowAll hb)
  have HB := hid (HB.out.trans (hb.mono HB.out.size))
  have hsv4 : v3.heap.size ≤ v4.heap.size := by first | exact hb.size | omega
  rw [show EvV.val (([] : List Side).foldl Side.tell ⟨true, x⟩) = .agg #[.bool true, .slice x.a x.n x.c] from rfl]
  have HX := hid (hu.mono HBt)
  clear hu HBt
  clear kPB0
  have kPB0 : v4.cell? ⟨w.heap.size, 0, none⟩ = some (.bool true) := (BoxAt.cell PB.out 0).trans rfl
  clear hb
  have FL4 := hid trivial
  go_wp2_with (first
    | (have hfl := FL4.out
       refine wpList_store_whole rfl 24 _ _ rfl rfl (v2.heap.size) rfl [.bool true, .slice x.a x.n x.c] rfl _ _ RB.out rfl Try.infoEv (by simp [Value.oneCell']) ?_
       intro v5 b g z
       have hsv5 : v4.heap.size ≤ v5.heap.size := by omega
       have HX := hid (HX.out.put g RB.out (by decide))
       have RB := hid (show BoxAt v5 (v2.heap.size) 24 #[.bool true, .slice x.a x.n x.c] from b)
       have PB := hid (PB.out.grown g (fun e => by have := Option.some.inj e; omega))
       have WB := hid (WB.out.grown g (fun e => by have := Option.some.inj e; omega))
       have HB := hid (HB.out.trans (grown_below g (by omega) (by omega)))
       clear kPB0
       have kPB0 : v5.cell? ⟨w.heap.size, 0, none⟩ = some (.bool true) := (BoxAt.cell PB.out 0).trans rfl
       clear b g z hfl FL4)
    | fail)
  refine bodyPost_ret (results_box_tmp rfl _ _ (v2.heap.size) 24 _ (0, 0) _ rfl RB.out Try.underlying24 rfl Try.infoEv) rfl ?_
  exact ⟨x, rfl, HX.out, HB.out⟩

set_option maxRecDepth 100000 in
set_option maxHeartbeats 1600000 in
theorem await_no {s : Sl} {l : List Wt} (p r v : Int) {w : World} (hs : SeesWt w s.val l) (hl : l.length ≤ 800000) :
    Calls Try.prog 15 #[EvV.val ⟨false, s⟩, .agg #[.int .i64 p, .int .i64 r, .int .i64 v], .bool false] w fun e w' => ∃ (x : Sl), e = .returned (.tuple #[EvV.val ⟨false, x⟩, .int .i64 (2)]) ∧ OWt w' w.heap.size x.val (l) ∧ Below w.heap.size w w' := by
  have HV := hid hs
  obtain ⟨a2, c2, hs1, hc1, hc2, -⟩ := hs.form
  obtain ⟨sa, sn, sc⟩ := s
  simp only [Sl.val, Value.slice.injEq] at hs1
  obtain ⟨rfl, rfl, rfl⟩ := hs1
  unfold maxLen at hc2
  simp only [Sl.val] at HV
  clear hs
  unfold EvV.val
  simp only
  obtain ⟨M, hM⟩ : ∃ M, l.length = M := ⟨_, rfl⟩
  have HM := hid hM
  have HL := hid hl
  rw [hM] at hl hc1 HV ⊢
  clear hM
  have HB := hid (Below.refl w.heap.size w)
  go_enter Try.func15, Try.ntmps15
  have FL1 := hid trivial
  have FL2 := hid trivial
  have FL3 := hid trivial
  go_wp2_with (first
    | (have hfl := FL1.out
       refine wpList_box rfl 24 (.tmp 0) rfl #[.bool false, .slice sa M sc] rfl ?_
       intro v1 b h z
       have PB := hid (show BoxAt v1 w.heap.size 24 #[.bool false, .slice sa M sc] from b)
       have HB := hid (HB.out.trans (h.mono HB.out.size))
       have hsv1 : w.heap.size + 1 ≤ v1.heap.size := by first | exact h.size | omega
       clear b h z hfl FL1)
    | (have hfl := FL2.out
       refine wpList_box rfl 26 (.tmp 1) rfl #[.int .i64 p, .int .i64 r, .int .i64 v] rfl ?_
       intro v2 b h z
       have WB := hid (show BoxAt v2 v1.heap.size 26 #[.int .i64 p, .int .i64 r, .int .i64 v] from b)
       have PB := hid (PB.out.belowAll h)
       have HB := hid (HB.out.trans (h.mono HB.out.size))
       have hsv2 : v1.heap.size + 1 ≤ v2.heap.size := by first | exact h.size | omega
       have kPB0 : v2.cell? ⟨w.heap.size, 0, none⟩ = some (.bool false) := (BoxAt.cell PB.out 0).trans rfl
       clear b h z hfl FL2)
    | (have hfl := FL3.out
       refine wpList_new rfl 24 rfl _ Try.zeroEv ?_
       intro v3 b h z
       have RB := hid (show BoxAt v3 v2.heap.size 24 #[.bool false, .slice none 0 0] from b)
       have PB := hid (PB.out.belowAll h)
       have WB := hid (WB.out.belowAll h)
       have HB := hid (HB.out.trans (h.mono HB.out.size))
       have hsv3 : v2.heap.size + 1 ≤ v3.heap.size := by first | exact h.size | omega
       clear kPB0
       have kPB0 : v3.cell? ⟨w.heap.size, 0, none⟩ = some (.bool false) := (BoxAt.cell PB.out 0).trans rfl
       clear b h z hfl FL3
       refine Hid.out ?_)
    | fail)
  refine hid ?_
  clear kPB0
  have kPB0 : v3.cell? ⟨w.heap.size, 0, none⟩ = some (.bool false) := (BoxAt.cell PB.out 0).trans rfl
  go_wp2_with (first
    | (refine wpList_load_box rfl 24 _ rfl (w.heap.size) rfl _ _ PB.out _ Try.underlying24 Try.infoEv ?_)
    | fail)
  have HBt := HB.out.size
  refine (with_any false (s := ⟨sa, M, sc⟩) (HV.out.below HB.out) (by have := HL.out; omega) (SidesAt.nil _) (by simp)).mono ?_
  rintro e v4 ⟨x, rfl, hu, hb⟩
  have PB := hid (PB.out.belowAll hb)
  have WB := hid (WB.out.belowAll hb)
  have RB := hid (RB.out.belowAll hb)
  have HB := hid (HB.out.trans (hb.mono HB.out.size))
  have hsv4 : v3.heap.size ≤ v4.heap.size := by first | exact hb.size | omega
  rw [show EvV.val (([] : List Side).foldl Side.tell ⟨false, x⟩) = .agg #[.bool false, .slice x.a x.n x.c] from rfl]
  have HX := hid (hu.mono HBt)
  clear hu HBt
  clear kPB0
  have kPB0 : v4.cell? ⟨w.heap.size, 0, none⟩ = some (.bool false) := (BoxAt.cell PB.out 0).trans rfl
  clear hb
  have FL4 := hid trivial
  go_wp2_with (first
    | (have hfl := FL4.out
       refine wpList_store_whole rfl 24 _ _ rfl rfl (v2.heap.size) rfl [.bool false, .slice x.a x.n x.c] rfl _ _ RB.out rfl Try.infoEv (by simp [Value.oneCell']) ?_
       intro v5 b g z
       have hsv5 : v4.heap.size ≤ v5.heap.size := by omega
       have HX := hid (HX.out.put g RB.out (by decide))
       have RB := hid (show BoxAt v5 (v2.heap.size) 24 #[.bool false, .slice x.a x.n x.c] from b)
       have PB := hid (PB.out.grown g (fun e => by have := Option.some.inj e; omega))
       have WB := hid (WB.out.grown g (fun e => by have := Option.some.inj e; omega))
       have HB := hid (HB.out.trans (grown_below g (by omega) (by omega)))
       clear kPB0
       have kPB0 : v5.cell? ⟨w.heap.size, 0, none⟩ = some (.bool false) := (BoxAt.cell PB.out 0).trans rfl
       clear b g z hfl FL4)
    | fail)
  refine bodyPost_ret (results_box_tmp rfl _ _ (v2.heap.size) 24 _ (0, 0) _ rfl RB.out Try.underlying24 rfl Try.infoEv) rfl ?_
  exact ⟨x, rfl, HX.out, HB.out⟩

set_option maxRecDepth 100000 in
set_option maxHeartbeats 1600000 in
theorem await_yes {s : Sl} {l : List Wt} (p r v : Int) {w : World} (hs : SeesWt w s.val l) (hl : l.length ≤ 800000) :
    Calls Try.prog 15 #[EvV.val ⟨false, s⟩, .agg #[.int .i64 p, .int .i64 r, .int .i64 v], .bool true] w fun e w' => ∃ (x : Sl), e = .returned (.tuple #[EvV.val ⟨false, x⟩, .int .i64 (6)]) ∧ OWt w' w.heap.size x.val (addP l ⟨p, r, v⟩ false) ∧ Below w.heap.size w w' := by
  have HV := hid hs
  obtain ⟨a2, c2, hs1, hc1, hc2, -⟩ := hs.form
  obtain ⟨sa, sn, sc⟩ := s
  simp only [Sl.val, Value.slice.injEq] at hs1
  obtain ⟨rfl, rfl, rfl⟩ := hs1
  unfold maxLen at hc2
  simp only [Sl.val] at HV
  clear hs
  unfold EvV.val
  simp only
  obtain ⟨M, hM⟩ : ∃ M, l.length = M := ⟨_, rfl⟩
  have HM := hid hM
  have HL := hid hl
  rw [hM] at hl hc1 HV ⊢
  clear hM
  have HB := hid (Below.refl w.heap.size w)
  go_enter Try.func15, Try.ntmps15
  have FL1 := hid trivial
  have FL2 := hid trivial
  have FL3 := hid trivial
  go_wp2_with (first
    | (have hfl := FL1.out
       refine wpList_box rfl 24 (.tmp 0) rfl #[.bool false, .slice sa M sc] rfl ?_
       intro v1 b h z
       have PB := hid (show BoxAt v1 w.heap.size 24 #[.bool false, .slice sa M sc] from b)
       have HB := hid (HB.out.trans (h.mono HB.out.size))
       have hsv1 : w.heap.size + 1 ≤ v1.heap.size := by first | exact h.size | omega
       clear b h z hfl FL1)
    | (have hfl := FL2.out
       refine wpList_box rfl 26 (.tmp 1) rfl #[.int .i64 p, .int .i64 r, .int .i64 v] rfl ?_
       intro v2 b h z
       have WB := hid (show BoxAt v2 v1.heap.size 26 #[.int .i64 p, .int .i64 r, .int .i64 v] from b)
       have PB := hid (PB.out.belowAll h)
       have HB := hid (HB.out.trans (h.mono HB.out.size))
       have hsv2 : v1.heap.size + 1 ≤ v2.heap.size := by first | exact h.size | omega
       have kPB0 : v2.cell? ⟨w.heap.size, 0, none⟩ = some (.bool false) := (BoxAt.cell PB.out 0).trans rfl
       clear b h z hfl FL2)
    | (have hfl := FL3.out
       refine wpList_new rfl 24 rfl _ Try.zeroEv ?_
       intro v3 b h z
       have RB := hid (show BoxAt v3 v2.heap.size 24 #[.bool false, .slice none 0 0] from b)
       have PB := hid (PB.out.belowAll h)
       have WB := hid (WB.out.belowAll h)
       have HB := hid (HB.out.trans (h.mono HB.out.size))
       have hsv3 : v2.heap.size + 1 ≤ v3.heap.size := by first | exact h.size | omega
       clear kPB0
       have kPB0 : v3.cell? ⟨w.heap.size, 0, none⟩ = some (.bool false) := (BoxAt.cell PB.out 0).trans rfl
       clear b h z hfl FL3
       refine Hid.out ?_)
    | fail)
  refine hid ?_
  clear kPB0
  have kPB0 : v3.cell? ⟨w.heap.size, 0, none⟩ = some (.bool false) := (BoxAt.cell PB.out 0).trans rfl
  go_wp2_with fail
  clear kPB0
  have PB := hid (BoxAt.drew PB.out)
  have WB := hid (BoxAt.drew WB.out)
  have RB := hid (BoxAt.drew RB.out)
  have HB := hid (HB.out.drew)
  have hsv4 : v3.heap.size ≤ v3.drew.heap.size := Nat.le_refl _
  refine wp_region_held_drew (S := (fun w' : World => BoxAt w' (w.heap.size) 24 #[.bool false, .slice sa M sc] ∧ BoxAt w' (v1.heap.size) 26 #[.int .i64 p, .int .i64 r, .int .i64 v])) (by kernel_rfl) (⟨PB.out, WB.out⟩) (fun hHeld => ?_)
  generalize v3.drew = v4 at *
  refine wpAnyH_take (i := 0) (oi := { dst := some 18, op := Op.load 24 (Operand.tmp 3), type := 24, pos := "event.go:31", after := _, guard := none }) (v := ?_) rfl (by kernel_rfl) (by kernel_rfl) (by kernel_rfl) (fun _ _ _ h => h) (Or.inl ⟨by rfl, ?_⟩) (by assumption) ?_
  rotate_left
  · (intro W hSw; (try dsimp only at hSw); obtain ⟨hs0S, hs1S⟩ := hSw; have c0_0 : W.cell? ⟨w.heap.size, 0, none⟩ = some (.bool false) := (BoxAt.cell hs0S 0).trans rfl; have c0_1 : W.cell? ⟨w.heap.size, 1, none⟩ = some (.slice sa M sc) := (BoxAt.cell hs0S 1).trans rfl; have c1_0 : W.cell? ⟨v1.heap.size, 0, none⟩ = some (.int .i64 p) := (BoxAt.cell hs1S 0).trans rfl; have c1_1 : W.cell? ⟨v1.heap.size, 1, none⟩ = some (.int .i64 r) := (BoxAt.cell hs1S 1).trans rfl; have c1_2 : W.cell? ⟨v1.heap.size, 2, none⟩ = some (.int .i64 v) := (BoxAt.cell hs1S 2).trans rfl; clear hs0S hs1S; go_simp; try with_reducible rfl)
  simp only [Act.put, List.setIfInBounds_toArray, List.set_cons_zero, List.set_cons_succ]
  refine wpAnyH_take (i := 1) (oi := { dst := some 19, op := Op.fieldAddr 24 (Operand.tmp 3) 1, type := 0, pos := "event.go:31", after := _, guard := none }) (v := ?_) rfl (by kernel_rfl) (by kernel_rfl) (by kernel_rfl) (fun _ _ _ h => h) (Or.inl ⟨by rfl, ?_⟩) (by assumption) ?_
  rotate_left
  · (intro w hSw; (try dsimp only at hSw); go_simp; try with_reducible rfl)
  simp only [Act.put, List.setIfInBounds_toArray, List.set_cons_zero, List.set_cons_succ]
  refine wpAnyH_take (i := 2) (oi := { dst := some 20, op := Op.load 22 (Operand.tmp 19), type := 22, pos := "event.go:31", after := _, guard := none }) (v := ?_) rfl (by kernel_rfl) (by kernel_rfl) (by kernel_rfl) (fun _ _ _ h => h) (Or.inl ⟨by rfl, ?_⟩) (by assumption) ?_
  rotate_left
  · (intro W hSw; (try dsimp only at hSw); obtain ⟨hs0S, hs1S⟩ := hSw; have c0_0 : W.cell? ⟨w.heap.size, 0, none⟩ = some (.bool false) := (BoxAt.cell hs0S 0).trans rfl; have c0_1 : W.cell? ⟨w.heap.size, 1, none⟩ = some (.slice sa M sc) := (BoxAt.cell hs0S 1).trans rfl; have c1_0 : W.cell? ⟨v1.heap.size, 0, none⟩ = some (.int .i64 p) := (BoxAt.cell hs1S 0).trans rfl; have c1_1 : W.cell? ⟨v1.heap.size, 1, none⟩ = some (.int .i64 r) := (BoxAt.cell hs1S 1).trans rfl; have c1_2 : W.cell? ⟨v1.heap.size, 2, none⟩ = some (.int .i64 v) := (BoxAt.cell hs1S 2).trans rfl; clear hs0S hs1S; go_simp; try with_reducible rfl)
  simp only [Act.put, List.setIfInBounds_toArray, List.set_cons_zero, List.set_cons_succ]
  refine wpAnyH_take (i := 3) (oi := { dst := some 21, op := Op.load 26 (Operand.tmp 4), type := 26, pos := "event.go:31", after := _, guard := none }) (v := ?_) rfl (by kernel_rfl) (by kernel_rfl) (by kernel_rfl) (fun _ _ _ h => h) (Or.inl ⟨by rfl, ?_⟩) (by assumption) ?_
  rotate_left
  · (intro W hSw; (try dsimp only at hSw); obtain ⟨hs0S, hs1S⟩ := hSw; have c0_0 : W.cell? ⟨w.heap.size, 0, none⟩ = some (.bool false) := (BoxAt.cell hs0S 0).trans rfl; have c0_1 : W.cell? ⟨w.heap.size, 1, none⟩ = some (.slice sa M sc) := (BoxAt.cell hs0S 1).trans rfl; have c1_0 : W.cell? ⟨v1.heap.size, 0, none⟩ = some (.int .i64 p) := (BoxAt.cell hs1S 0).trans rfl; have c1_1 : W.cell? ⟨v1.heap.size, 1, none⟩ = some (.int .i64 r) := (BoxAt.cell hs1S 1).trans rfl; have c1_2 : W.cell? ⟨v1.heap.size, 2, none⟩ = some (.int .i64 v) := (BoxAt.cell hs1S 2).trans rfl; clear hs0S hs1S; go_simp; try with_reducible rfl)
  simp only [Act.put, List.setIfInBounds_toArray, List.set_cons_zero, List.set_cons_succ]
  refine wpAnyH_ready (rs := [4]) (by kernel_rfl) (by simp) (AllReadyH.cons (o := { dst := some 22, op := Op.call { callee := Callee.value (Operand.func 23), args := #[Operand.tmp 20, Operand.tmp 21, Operand.const (Value.bool false)], argTypes := #[22, 26, 4] }, type := 22, pos := "event.go:31", after := _, guard := none }) rfl (fun K1005 hK1005 => ?_) AllReadyH.nil)
  have HBt := HB.out.size
  go_simp
  refine (add_any ⟨p, r, v⟩ false (HV.out.below HB.out) (by have := HL.out; omega)).mono ?_
  rintro e v5 ⟨uu, rfl, hu, hb⟩
  have PB := hid (PB.out.belowAll hb)
  have WB := hid (WB.out.belowAll hb)
  have RB := hid (RB.out.belowAll hb)
  have HB := hid (HB.out.trans (hb.mono HB.out.size))
  have hsv5 : v4.heap.size ≤ v5.heap.size := by first | exact hb.size | omega
  obtain ⟨y, rfl, -⟩ := hu.sl
  have HY := hid (hu.mono HBt)
  clear hu HBt
  clear hb
  refine hK1005.out _ _ (⟨PB.out, WB.out⟩) (fun hHeld1005 => ?_)
  clear hK1005 K1005
  try simp only [Act.put, List.setIfInBounds_toArray, List.set_cons_zero, List.set_cons_succ]
  refine wpAnyH_ready (rs := [5]) (by kernel_rfl) (by simp) (AllReadyH.cons (o := { dst := some 23, op := Op.call { callee := Callee.value (Operand.func 19), args := #[Operand.tmp 22], argTypes := #[22] }, type := 49, pos := "event.go:31", after := _, guard := none }) rfl (fun K1006 hK1006 => ?_) AllReadyH.nil)
  go_simp
  refine (aw_any y _).mono ?_
  rintro e v6 ⟨P1, rfl, hl, hb⟩
  have PB := hid (PB.out.belowAll hb)
  have WB := hid (WB.out.belowAll hb)
  have RB := hid (RB.out.belowAll hb)
  have HY := hid (HY.out.below hb)
  have HB := hid (HB.out.trans (hb.mono HB.out.size))
  have hsv6 : v5.heap.size ≤ v6.heap.size := by first | exact hb.size | omega
  have HS1 := hid hl
  clear hl
  clear hb
  refine hK1006.out _ _ (⟨PB.out, WB.out⟩) (fun hHeld1006 => ?_)
  clear hK1006 K1006
  try simp only [Act.put, List.setIfInBounds_toArray, List.set_cons_zero, List.set_cons_succ]
  refine wpAnyH_ready (rs := [6]) (by kernel_rfl) (by simp) (AllReadyH.cons (o := { dst := some 24, op := Op.buildSlice 55 1 #[(0, Operand.tmp 23)], type := 55, pos := "event.go:31", after := _, guard := none }) rfl (fun K1007 hK1007 => ?_) AllReadyH.nil)
  refine step_side1 rfl (.tmp 23) rfl (Side.aw y P1) rfl ?_
  intro v7 b h
  have LB := hid (show BoxAt v7 v6.heap.size 49 #[(Side.aw y P1).val] from b)
  have hlsv7 : v6.heap.size + 1 ≤ v7.heap.size := b.lt
  have PB := hid (PB.out.belowAll h)
  have WB := hid (WB.out.belowAll h)
  have RB := hid (RB.out.belowAll h)
  have HY := hid (HY.out.below h)
  have HS1 := hid (HS1.out.below h)
  have HB := hid (HB.out.trans (h.mono HB.out.size))
  have hsv7 : v6.heap.size ≤ v7.heap.size := by first | exact h.size | omega
  clear b h
  refine hK1007.out _ _ (⟨PB.out, WB.out⟩) (fun hHeld1007 => ?_)
  clear hK1007 K1007
  try simp only [Act.put, List.setIfInBounds_toArray, List.set_cons_zero, List.set_cons_succ]
  refine wpAnyH_ready (rs := [7]) (by kernel_rfl) (by simp) (AllReadyH.cons (o := { dst := some 25, op := Op.call { callee := Callee.value (Operand.func 17), args := #[Operand.tmp 18, Operand.tmp 24], argTypes := #[24, 55] }, type := 24, pos := "event.go:31", after := _, guard := none }) rfl (fun K1008 hK1008 => ?_) AllReadyH.nil)
  have HBt := HB.out.size
  go_simp
  refine (with_any false (s := ⟨sa, M, sc⟩) (HV.out.below HB.out) (by have := HL.out; omega) (SidesAt.one LB.out HS1.out) (by simp)).mono ?_
  rintro e v8 ⟨x, rfl, hu, hb⟩
  have PB := hid (PB.out.belowAll hb)
  have WB := hid (WB.out.belowAll hb)
  have RB := hid (RB.out.belowAll hb)
  have LB := hid (LB.out.belowAll hb)
  have HY := hid (HY.out.below hb)
  have HS1 := hid (HS1.out.below hb)
  have HB := hid (HB.out.trans (hb.mono HB.out.size))
  have hsv8 : v7.heap.size ≤ v8.heap.size := by first | exact hb.size | omega
  rw [show EvV.val ([Side.aw y P1].foldl Side.tell ⟨false, x⟩) = .agg #[.bool false, .slice y.a y.n y.c] from rfl]
  clear hu HBt LB HS1
  clear hb
  refine hK1008.out _ _ (⟨PB.out, WB.out⟩) (fun hHeld1008 => ?_)
  clear hK1008 K1008
  try simp only [Act.put, List.setIfInBounds_toArray, List.set_cons_zero, List.set_cons_succ]
  refine wpAnyH_ready (rs := [8]) (by kernel_rfl) (by simp) (AllReadyH.cons (o := { dst := none, op := Op.store 24 (Operand.tmp 6) (Operand.tmp 25), type := 0, pos := "event.go:31", after := _, guard := none }) rfl (fun K1009 hK1009 => ?_) AllReadyH.nil)
  refine step_store_whole rfl 24 _ _ rfl (v2.heap.size) rfl [.bool false, .slice y.a y.n y.c] rfl _ _ RB.out rfl Try.infoEv (by simp [Value.oneCell']) ?_
  intro v9 b g z
  have hsv9 : v8.heap.size ≤ v9.heap.size := by omega
  have HY := hid (HY.out.put g RB.out (by decide))
  have RB := hid (show BoxAt v9 (v2.heap.size) 24 #[.bool false, .slice y.a y.n y.c] from b)
  have PB := hid (PB.out.grown g (fun e => by have := Option.some.inj e; omega))
  have WB := hid (WB.out.grown g (fun e => by have := Option.some.inj e; omega))
  have HB := hid (HB.out.trans (grown_below g (by omega) (by omega)))
  clear b g z
  refine hK1009.out _ _ (⟨PB.out, WB.out⟩) (fun hHeld1009 => ?_)
  clear hK1009 K1009
  try simp only [Act.put]
  refine wpAnyH_take (i := 9) (oi := { dst := some 7, op := Op.assign (Operand.const (Value.int IntKind.i64 6)), type := 3, pos := "event.go:31", after := _, guard := none }) (v := ?_) rfl (by kernel_rfl) (by kernel_rfl) (by kernel_rfl) (fun _ _ _ h => h) (Or.inl ⟨by rfl, ?_⟩) (by assumption) ?_
  rotate_left
  · (intro w hSw; (try dsimp only at hSw); go_simp; try with_reducible rfl)
  simp only [Act.put, List.setIfInBounds_toArray, List.set_cons_zero, List.set_cons_succ]
  refine wpAnyH_done (by kernel_rfl) ?_ _
  clear hHeld hHeld1005 hHeld1006 hHeld1007 hHeld1008 hHeld1009
  have kPB0 : v9.cell? ⟨w.heap.size, 0, none⟩ = some (.bool false) := (BoxAt.cell PB.out 0).trans rfl
  go_wp2
  refine bodyPost_ret (results_box_tmp rfl _ _ (v2.heap.size) 24 _ (0, 0) _ rfl RB.out Try.underlying24 rfl Try.infoEv) rfl ?_
  exact ⟨y, rfl, HY.out, HB.out⟩

theorem await_any (k : Bool) {s : Sl} {l : List Wt} (p r v : Int) (may : Bool) {w : World} (hs : SeesWt w s.val l) (hl : l.length ≤ 800000) :
    Calls Try.prog 15 #[EvV.val ⟨k, s⟩, .agg #[.int .i64 p, .int .i64 r, .int .i64 v], .bool may] w fun e w' => ∃ (x : Sl), e = .returned (.tuple #[EvV.val ⟨k, x⟩, .int .i64 (awC k may)]) ∧ OWt w' w.heap.size x.val (awL k may l ⟨p, r, v⟩) ∧ Below w.heap.size w w' := by
  cases k
  · cases may
    · exact await_no p r v hs hl
    · exact await_yes p r v hs hl
  · exact await_up p r v may hs hl


end Go.Proofs.Ytgnjnhfimagbpaa
