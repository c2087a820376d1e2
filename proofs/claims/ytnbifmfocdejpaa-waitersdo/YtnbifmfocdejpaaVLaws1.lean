/-
  WaitersDo: the walk.
-/
import Derived.Test.YtnbifmfocdejpaaVAwake
import Derived.Test.YtnbifmfocdejpaaVRefFirst
import Derived.Test.YtnbifmfocdejpaaVRef2
namespace Go.Proofs.Ytnbifmfocdejpaa
open Go.RowKit
set_option linter.unusedVariables false

set_option maxRecDepth 100000 in
set_option maxHeartbeats 3200000 in
theorem walk_WaitersDo (w : World) (v : Value) (l : List Wt) (hv : SeesWt w v l) (hf : ∀ r ∈ l, r.fit) (x : Wt) (hx : x.fit) (q : Bool) (p : Int) (hp : (Lit.int .i64 p).wf = true) :
    Calls Try.prog 3 #[v, x.val, .bool q, .int .i64 p] w fun e w' => e = .returned (.bool true) ∧ Below w.heap.size w w' := by
  clear hf hx hp
  have HV := hid hv
  obtain ⟨al, cl, rfl, hl1, hl2, _⟩ := hv.form
  unfold maxLen at hl2
  obtain ⟨xp, xr, xv⟩ := x
  have BX0 := hid (BoxAt.new w 24 #[.int .i64 xp, .int .i64 xr, .int .i64 xv])
  have HB0 := hid (show Below w.heap.size w (w.alloc (.cells #[.int .i64 xp, .int .i64 xr, .int .i64 xv] 24)) from (Below.refl _ _).alloc (Nat.le_refl _) _)
  have hmk : ∀ w', BoxAt w' w.heap.size 24 #[.int .i64 xp, .int .i64 xr, .int .i64 xv] → w'.cell? ⟨w.heap.size, 0, none⟩ = some (.int .i64 xp) ∧ w'.cell? ⟨w.heap.size, 1, none⟩ = some (.int .i64 xr) ∧ w'.cell? ⟨w.heap.size, 2, none⟩ = some (.int .i64 xv) := fun w' h => ⟨h.cell 0, h.cell 1, h.cell 2⟩
  have MK := hid hmk
  clear hv hmk
  unfold Wt.val
  simp only
  go_enter Try.func3, Try.ntmps3
  go_wp2_with fail
  refine (vawake_any _).mono ?_
  rintro e w1 ⟨rfl, hb1⟩
  have BX1 := hid (BX0.out.belowAll hb1)
  have HB1 := hid (HB0.out.trans (hb1.mono HB0.out.size))
  clear hb1 BX0 HB0
  by_cases h60 : 60 < l.length
  · have h60' : (60 : Int) < l.length := by omega
    go_wp2
    go_ret
    exact ⟨rfl, HB1.out⟩
  have h60' : ¬ (60 : Int) < l.length := by omega
  have h8 : l.length ≤ 800000 := by omega
  go_wp2_with fail
  refine wp_region_held_drew (S := (fun w' => w'.cell? ⟨w.heap.size, 0, none⟩ = some (.int .i64 xp) ∧ w'.cell? ⟨w.heap.size, 1, none⟩ = some (.int .i64 xr) ∧ w'.cell? ⟨w.heap.size, 2, none⟩ = some (.int .i64 xv))) (by kernel_rfl) (MK.out _ BX1.out.drew) (fun hHeld => ?_)
  refine wpAnyH_take (i := 0) (oi := { dst := some 28, op := Op.move (Operand.tmp 0), type := 22, pos := "law.go:25", after := #[], guard := none }) (v := ?v1001) rfl (by kernel_rfl) (by kernel_rfl) (by kernel_rfl) (fun _ _ _ h => h) (Or.inl ⟨by rfl, ?hy1001⟩) (by assumption) ?rest1001
  case hy1001 => (intro w hSw; (try dsimp only at hSw); go_simp; try with_reducible rfl)
  simp only [Act.put, List.setIfInBounds_toArray, List.set_cons_zero, List.set_cons_succ]
  refine wpAnyH_take (i := 1) (oi := { dst := some 29, op := Op.load 24 (Operand.tmp 5), type := 24, pos := "law.go:25", after := #[], guard := none }) (v := ?v1002) rfl (by kernel_rfl) (by kernel_rfl) (by kernel_rfl) (fun _ _ _ h => h) (Or.inl ⟨by rfl, ?hy1002⟩) (by assumption) ?rest1002
  case hy1002 => (intro w hSw; (try dsimp only at hSw); go_simp; try with_reducible rfl)
  simp only [Act.put, List.setIfInBounds_toArray, List.set_cons_zero, List.set_cons_succ]
  refine wpAnyH_take (i := 2) (oi := { dst := some 30, op := Op.move (Operand.tmp 2), type := 4, pos := "law.go:25", after := #[], guard := none }) (v := ?v1003) rfl (by kernel_rfl) (by kernel_rfl) (by kernel_rfl) (fun _ _ _ h => h) (Or.inl ⟨by rfl, ?hy1003⟩) (by assumption) ?rest1003
  case hy1003 => (intro w hSw; (try dsimp only at hSw); go_simp; try with_reducible rfl)
  simp only [Act.put, List.setIfInBounds_toArray, List.set_cons_zero, List.set_cons_succ]
  refine wpAnyH_take (i := 4) (oi := { dst := some 32, op := Op.move (Operand.tmp 0), type := 22, pos := "law.go:25", after := #[], guard := none }) (v := ?v1004) rfl (by kernel_rfl) (by kernel_rfl) (by kernel_rfl) (fun _ _ _ h => h) (Or.inl ⟨by rfl, ?hy1004⟩) (by assumption) ?rest1004
  case hy1004 => (intro w hSw; (try dsimp only at hSw); go_simp; try with_reducible rfl)
  simp only [Act.put, List.setIfInBounds_toArray, List.set_cons_zero, List.set_cons_succ]
  refine wpAnyH_take (i := 5) (oi := { dst := some 33, op := Op.load 24 (Operand.tmp 5), type := 24, pos := "law.go:25", after := #[], guard := none }) (v := ?v1005) rfl (by kernel_rfl) (by kernel_rfl) (by kernel_rfl) (fun _ _ _ h => h) (Or.inl ⟨by rfl, ?hy1005⟩) (by assumption) ?rest1005
  case hy1005 => (intro w hSw; (try dsimp only at hSw); go_simp; try with_reducible rfl)
  simp only [Act.put, List.setIfInBounds_toArray, List.set_cons_zero, List.set_cons_succ]
  refine wpAnyH_take (i := 6) (oi := { dst := some 34, op := Op.move (Operand.tmp 2), type := 4, pos := "law.go:25", after := #[], guard := none }) (v := ?v1006) rfl (by kernel_rfl) (by kernel_rfl) (by kernel_rfl) (fun _ _ _ h => h) (Or.inl ⟨by rfl, ?hy1006⟩) (by assumption) ?rest1006
  case hy1006 => (intro w hSw; (try dsimp only at hSw); go_simp; try with_reducible rfl)
  simp only [Act.put, List.setIfInBounds_toArray, List.set_cons_zero, List.set_cons_succ]
  refine wpAnyH_ready (rs := [3]) (by kernel_rfl) (by simp) (AllReadyH.cons (o := { dst := some 31, op := Op.call { callee := Callee.value (Operand.func 10), args := #[Operand.tmp 28, Operand.tmp 29, Operand.tmp 30], argTypes := #[22, 24, 4] }, type := 22, pos := "law.go:25", after := #[{ on := 0, ground := Ground.data }, { on := 1, ground := Ground.data }, { on := 2, ground := Ground.data }], guard := none }) rfl (fun K1007 hK1007 => ?_) AllReadyH.nil)
  go_simp
  refine (add_any ⟨xp, xr, xv⟩ q (HV.out.below HB1.out.drew) h8).mono ?_
  rintro e w2 ⟨u2, rfl, hu2, hb2⟩
  have BX2 := hid (BX1.out.drew.belowAll hb2)
  have HB2 := hid (HB1.out.drew.trans (hb2.mono HB1.out.drew.size))
  have HS2 := hid hu2.sees
  clear hb2 hu2
  refine hK1007.out _ _ (MK.out _ BX2.out) (fun hHeld1007 => ?_)
  clear hK1007 K1007
  try simp only [Act.put, List.setIfInBounds_toArray, List.set_cons_zero, List.set_cons_succ]
  refine wpAnyH_ready (rs := [7]) (by kernel_rfl) (by simp) (AllReadyH.cons (o := { dst := some 35, op := Op.call { callee := Callee.value (Operand.func 11), args := #[Operand.tmp 32, Operand.tmp 33, Operand.tmp 34], argTypes := #[22, 24, 4] }, type := 22, pos := "law.go:25", after := #[{ on := 4, ground := Ground.data }, { on := 5, ground := Ground.data }, { on := 6, ground := Ground.data }, { on := 3, ground := Ground.chain }], guard := none }) rfl (fun K1008 hK1008 => ?_) AllReadyH.nil)
  go_simp
  refine (radd_any ⟨xp, xr, xv⟩ q (HV.out.below HB2.out) h8).mono ?_
  rintro e w3 ⟨u3, rfl, hu3, hb3⟩
  have BX3 := hid (BX2.out.belowAll hb3)
  have HB3 := hid (HB2.out.trans (hb3.mono HB2.out.size))
  have HS3 := hid hu3.sees
  have HS2b := hid (HS2.out.below hb3)
  clear hb3 hu3 HS2
  refine hK1008.out _ _ (MK.out _ BX3.out) (fun hHeld1008 => ?_)
  clear hK1008 K1008
  try simp only [Act.put, List.setIfInBounds_toArray, List.set_cons_zero, List.set_cons_succ]
  refine wpAnyH_ready (rs := [8]) (by kernel_rfl) (by simp) (AllReadyH.cons (o := { dst := some 36, op := Op.call { callee := Callee.value (Operand.func 9), args := #[Operand.tmp 31, Operand.tmp 35], argTypes := #[22, 22] }, type := 4, pos := "law.go:25", after := #[{ on := 3, ground := Ground.data }, { on := 7, ground := Ground.data }, { on := 7, ground := Ground.chain }], guard := none }) rfl (fun K1009 hK1009 => ?_) AllReadyH.nil)
  go_simp
  refine (same_Wt HS2b.out HS3.out).mono ?_
  rintro e w4 ⟨rfl, hb4⟩
  have BX4 := hid (BX3.out.belowAll hb4)
  have HB4 := hid (HB3.out.trans (hb4.mono HB3.out.size))
  clear hb4 HS2b HS3
  refine hK1009.out _ _ (MK.out _ BX4.out) (fun hHeld1009 => ?_)
  clear hK1009 K1009
  try simp only [Act.put, List.setIfInBounds_toArray, List.set_cons_zero, List.set_cons_succ]
  refine wpAnyH_take (i := 9) (oi := { dst := some 10, op := Op.assign (Operand.tmp 36), type := 4, pos := "law.go:25", after := #[{ on := 8, ground := Ground.data }, { on := 8, ground := Ground.chain }, { on := 0, ground := Ground.phase }, { on := 1, ground := Ground.phase }, { on := 2, ground := Ground.phase }, { on := 3, ground := Ground.phase }, { on := 4, ground := Ground.phase }, { on := 5, ground := Ground.phase }, { on := 6, ground := Ground.phase }, { on := 7, ground := Ground.phase }, { on := 8, ground := Ground.phase }], guard := none }) (v := ?v1010) rfl (by kernel_rfl) (by kernel_rfl) (by kernel_rfl) (fun _ _ _ h => h) (Or.inl ⟨by rfl, ?hy1010⟩) (by assumption) ?rest1010
  case hy1010 => (intro w hSw; (try dsimp only at hSw); go_simp; try with_reducible rfl)
  simp only [Act.put, List.setIfInBounds_toArray, List.set_cons_zero, List.set_cons_succ]
  refine wpAnyH_done (by kernel_rfl) ?_ _
  clear hHeld hHeld1007 hHeld1008 hHeld1009
  clear BX1 BX2 BX3 HB1 HB2 HB3
  go_wp2_with fail
  refine (first_any (HV.out.below HB4.out) h8).mono ?_
  rintro e w5 ⟨u5, rfl, hu5, hb5⟩
  have BX5 := hid (BX4.out.belowAll hb5)
  have HB5 := hid (HB4.out.trans (hb5.mono HB4.out.size))
  have HS5 := hid hu5.sees
  unfold firstV
  obtain ⟨r, hr⟩ : ∃ r, l.getD 0 Wt.zero = r := ⟨_, rfl⟩
  have HR := hid hr
  rw [hr]
  clear hb5 hu5 BX4 HB4 hr
  obtain ⟨r0, r1, r2⟩ := r
  unfold Wt.val
  simp only
  have BY := hid (BoxAt.new w5 24 #[.int .i64 r0, .int .i64 r1, .int .i64 r2])
  have HA5 := hid (show Below w5.heap.size w5 (w5.alloc (.cells #[.int .i64 r0, .int .i64 r1, .int .i64 r2] 24)) from (Below.refl _ _).alloc (Nat.le_refl _) _)
  have BX6 := hid (BX5.out.belowAll HA5.out)
  have HB6 := hid (HB5.out.trans (HA5.out.mono HB5.out.size))
  have HS6 := hid (HS5.out.below HA5.out)
  clear HA5 HS5 HB5 BX5
  go_wp2_with fail
  refine (rfirst_any (HV.out.below HB6.out) h8).mono ?_
  rintro e w7 ⟨u7, rfl, hu7, hb7⟩
  have BX7 := hid (BX6.out.belowAll hb7)
  have BY7 := hid (BY.out.belowAll hb7)
  have HB7 := hid (HB6.out.trans (hb7.mono HB6.out.size))
  have HS7 := hid hu7.sees
  have HS6b := hid (HS6.out.below hb7)
  unfold firstV
  rw [HR.out]
  unfold Wt.val
  simp only
  clear hb7 hu7 BX6 HB6 HS6 BY
  have BZ := hid (BoxAt.new w7 24 #[.int .i64 r0, .int .i64 r1, .int .i64 r2])
  have HA7 := hid (show Below w7.heap.size w7 (w7.alloc (.cells #[.int .i64 r0, .int .i64 r1, .int .i64 r2] 24)) from (Below.refl _ _).alloc (Nat.le_refl _) _)
  have BX8 := hid (BX7.out.belowAll HA7.out)
  have BY8 := hid (BY7.out.belowAll HA7.out)
  have HB8 := hid (HB7.out.trans (HA7.out.mono HB7.out.size))
  have HS8 := hid (HS7.out.below HA7.out)
  have HS8b := hid (HS6b.out.below HA7.out)
  clear HA7 HS7 HS6b HB7 BX7 BY7
  go_wp2_with fail
  refine (same_Wt HS8b.out HS8.out).mono ?_
  rintro e w9 ⟨rfl, hb9⟩
  have BX9 := hid (BX8.out.belowAll hb9)
  have BY9 := hid (BY8.out.belowAll hb9)
  have BZ9 := hid (BZ.out.belowAll hb9)
  have HB9 := hid (HB8.out.trans (hb9.mono HB8.out.size))
  clear hb9 BX8 BY8 BZ HB8 HS8 HS8b
  go_wp2_with fail
  refine wp_region_held_drew (S := (fun w' => w'.cell? ⟨w.heap.size, 0, none⟩ = some (.int .i64 xp) ∧ w'.cell? ⟨w.heap.size, 1, none⟩ = some (.int .i64 xr) ∧ w'.cell? ⟨w.heap.size, 2, none⟩ = some (.int .i64 xv))) (by kernel_rfl) (MK.out _ BX9.out.drew) (fun hHeld => ?_)
  refine wpAnyH_take (i := 0) (oi := { dst := some 52, op := Op.move (Operand.tmp 0), type := 22, pos := "law.go:29", after := #[], guard := none }) (v := ?v2001) rfl (by kernel_rfl) (by kernel_rfl) (by kernel_rfl) (fun _ _ _ h => h) (Or.inl ⟨by rfl, ?hy2001⟩) (by assumption) ?rest2001
  case hy2001 => (intro w hSw; (try dsimp only at hSw); go_simp; try with_reducible rfl)
  simp only [Act.put, List.setIfInBounds_toArray, List.set_cons_zero, List.set_cons_succ]
  refine wpAnyH_take (i := 1) (oi := { dst := some 53, op := Op.move (Operand.tmp 3), type := 3, pos := "law.go:29", after := #[], guard := none }) (v := ?v2002) rfl (by kernel_rfl) (by kernel_rfl) (by kernel_rfl) (fun _ _ _ h => h) (Or.inl ⟨by rfl, ?hy2002⟩) (by assumption) ?rest2002
  case hy2002 => (intro w hSw; (try dsimp only at hSw); go_simp; try with_reducible rfl)
  simp only [Act.put, List.setIfInBounds_toArray, List.set_cons_zero, List.set_cons_succ]
  refine wpAnyH_take (i := 2) (oi := { dst := some 54, op := Op.fieldAddr 24 (Operand.tmp 5) 2, type := 0, pos := "law.go:29", after := #[], guard := none }) (v := ?v2003) rfl (by kernel_rfl) (by kernel_rfl) (by kernel_rfl) (fun _ _ _ h => h) (Or.inl ⟨by rfl, ?hy2003⟩) (by assumption) ?rest2003
  case hy2003 => (intro w hSw; (try dsimp only at hSw); go_simp; try with_reducible rfl)
  simp only [Act.put, List.setIfInBounds_toArray, List.set_cons_zero, List.set_cons_succ]
  refine wpAnyH_take (i := 3) (oi := { dst := some 55, op := Op.load 3 (Operand.tmp 54), type := 3, pos := "law.go:29", after := #[{ on := 2, ground := Ground.data }], guard := none }) (v := ?v2004) rfl (by kernel_rfl) (by kernel_rfl) (by kernel_rfl) (fun _ _ _ h => h) (Or.inl ⟨by rfl, ?hy2004⟩) (by assumption) ?rest2004
  case hy2004 => (intro w hSw; (try dsimp only at hSw); go_simp; try with_reducible rfl)
  simp only [Act.put, List.setIfInBounds_toArray, List.set_cons_zero, List.set_cons_succ]
  refine wpAnyH_take (i := 5) (oi := { dst := some 57, op := Op.move (Operand.tmp 0), type := 22, pos := "law.go:29", after := #[], guard := none }) (v := ?v2005) rfl (by kernel_rfl) (by kernel_rfl) (by kernel_rfl) (fun _ _ _ h => h) (Or.inl ⟨by rfl, ?hy2005⟩) (by assumption) ?rest2005
  case hy2005 => (intro w hSw; (try dsimp only at hSw); go_simp; try with_reducible rfl)
  simp only [Act.put, List.setIfInBounds_toArray, List.set_cons_zero, List.set_cons_succ]
  refine wpAnyH_take (i := 6) (oi := { dst := some 58, op := Op.move (Operand.tmp 3), type := 3, pos := "law.go:29", after := #[], guard := none }) (v := ?v2006) rfl (by kernel_rfl) (by kernel_rfl) (by kernel_rfl) (fun _ _ _ h => h) (Or.inl ⟨by rfl, ?hy2006⟩) (by assumption) ?rest2006
  case hy2006 => (intro w hSw; (try dsimp only at hSw); go_simp; try with_reducible rfl)
  simp only [Act.put, List.setIfInBounds_toArray, List.set_cons_zero, List.set_cons_succ]
  refine wpAnyH_take (i := 7) (oi := { dst := some 59, op := Op.fieldAddr 24 (Operand.tmp 5) 2, type := 0, pos := "law.go:29", after := #[], guard := none }) (v := ?v2007) rfl (by kernel_rfl) (by kernel_rfl) (by kernel_rfl) (fun _ _ _ h => h) (Or.inl ⟨by rfl, ?hy2007⟩) (by assumption) ?rest2007
  case hy2007 => (intro w hSw; (try dsimp only at hSw); go_simp; try with_reducible rfl)
  simp only [Act.put, List.setIfInBounds_toArray, List.set_cons_zero, List.set_cons_succ]
  refine wpAnyH_take (i := 8) (oi := { dst := some 60, op := Op.load 3 (Operand.tmp 59), type := 3, pos := "law.go:29", after := #[{ on := 7, ground := Ground.data }], guard := none }) (v := ?v2008) rfl (by kernel_rfl) (by kernel_rfl) (by kernel_rfl) (fun _ _ _ h => h) (Or.inl ⟨by rfl, ?hy2008⟩) (by assumption) ?rest2008
  case hy2008 => (intro w hSw; (try dsimp only at hSw); go_simp; try with_reducible rfl)
  simp only [Act.put, List.setIfInBounds_toArray, List.set_cons_zero, List.set_cons_succ]
  refine wpAnyH_ready (rs := [4]) (by kernel_rfl) (by simp) (AllReadyH.cons (o := { dst := some 56, op := Op.call { callee := Callee.value (Operand.func 15), args := #[Operand.tmp 52, Operand.tmp 53, Operand.tmp 55], argTypes := #[22, 3, 3] }, type := 31, pos := "law.go:29", after := #[{ on := 0, ground := Ground.data }, { on := 1, ground := Ground.data }, { on := 3, ground := Ground.data }], guard := none }) rfl (fun K2009 hK2009 => ?_) AllReadyH.nil)
  go_simp
  refine (all_any p xv (HV.out.below HB9.out.drew) h8).mono ?_
  rintro e w10 ⟨u10, rfl, hu10, hb10⟩
  have BX10 := hid (BX9.out.drew.belowAll hb10)
  have BY10 := hid (BY9.out.drew.belowAll hb10)
  have BZ10 := hid (BZ9.out.drew.belowAll hb10)
  have HB10 := hid (HB9.out.drew.trans (hb10.mono HB9.out.drew.size))
  have HS10 := hid hu10.sees
  clear hb10 hu10
  refine hK2009.out _ _ (MK.out _ BX10.out) (fun hHeld2009 => ?_)
  clear hK2009 K2009
  try simp only [Act.put, List.setIfInBounds_toArray, List.set_cons_zero, List.set_cons_succ]
  refine wpAnyH_ready (rs := [9]) (by kernel_rfl) (by simp) (AllReadyH.cons (o := { dst := some 61, op := Op.call { callee := Callee.value (Operand.func 16), args := #[Operand.tmp 57, Operand.tmp 58, Operand.tmp 60], argTypes := #[22, 3, 3] }, type := 31, pos := "law.go:29", after := #[{ on := 5, ground := Ground.data }, { on := 6, ground := Ground.data }, { on := 8, ground := Ground.data }, { on := 4, ground := Ground.chain }], guard := none }) rfl (fun K2010 hK2010 => ?_) AllReadyH.nil)
  go_simp
  refine (rall_any p xv (HV.out.below HB10.out) h8).mono ?_
  rintro e w11 ⟨u11, rfl, hu11, hb11⟩
  have BX11 := hid (BX10.out.belowAll hb11)
  have BY11 := hid (BY10.out.belowAll hb11)
  have BZ11 := hid (BZ10.out.belowAll hb11)
  have HB11 := hid (HB10.out.trans (hb11.mono HB10.out.size))
  have HS11 := hid hu11.sees
  have HS10b := hid (HS10.out.below hb11)
  clear hb11 hu11 HS10
  refine hK2010.out _ _ (MK.out _ BX11.out) (fun hHeld2010 => ?_)
  clear hK2010 K2010
  try simp only [Act.put, List.setIfInBounds_toArray, List.set_cons_zero, List.set_cons_succ]
  refine wpAnyH_ready (rs := [10]) (by kernel_rfl) (by simp) (AllReadyH.cons (o := { dst := some 62, op := Op.call { callee := Callee.value (Operand.func 14), args := #[Operand.tmp 56, Operand.tmp 61], argTypes := #[31, 31] }, type := 4, pos := "law.go:29", after := #[{ on := 4, ground := Ground.data }, { on := 9, ground := Ground.data }, { on := 9, ground := Ground.chain }], guard := none }) rfl (fun K2011 hK2011 => ?_) AllReadyH.nil)
  go_simp
  refine (same_Wk HS10b.out HS11.out).mono ?_
  rintro e w12 ⟨rfl, hb12⟩
  have BX12 := hid (BX11.out.belowAll hb12)
  have BY12 := hid (BY11.out.belowAll hb12)
  have BZ12 := hid (BZ11.out.belowAll hb12)
  have HB12 := hid (HB11.out.trans (hb12.mono HB11.out.size))
  clear hb12 HS10b HS11
  refine hK2011.out _ _ (MK.out _ BX12.out) (fun hHeld2011 => ?_)
  clear hK2011 K2011
  try simp only [Act.put, List.setIfInBounds_toArray, List.set_cons_zero, List.set_cons_succ]
  refine wpAnyH_take (i := 11) (oi := { dst := some 18, op := Op.assign (Operand.tmp 62), type := 4, pos := "law.go:29", after := #[{ on := 10, ground := Ground.data }, { on := 10, ground := Ground.chain }, { on := 0, ground := Ground.phase }, { on := 1, ground := Ground.phase }, { on := 2, ground := Ground.phase }, { on := 3, ground := Ground.phase }, { on := 4, ground := Ground.phase }, { on := 5, ground := Ground.phase }, { on := 6, ground := Ground.phase }, { on := 7, ground := Ground.phase }, { on := 8, ground := Ground.phase }, { on := 9, ground := Ground.phase }, { on := 10, ground := Ground.phase }], guard := none }) (v := ?v2012) rfl (by kernel_rfl) (by kernel_rfl) (by kernel_rfl) (fun _ _ _ h => h) (Or.inl ⟨by rfl, ?hy2012⟩) (by assumption) ?rest2012
  case hy2012 => (intro w hSw; (try dsimp only at hSw); go_simp; try with_reducible rfl)
  simp only [Act.put, List.setIfInBounds_toArray, List.set_cons_zero, List.set_cons_succ]
  refine wpAnyH_done (by kernel_rfl) ?_ _
  clear hHeld hHeld2009 hHeld2010 hHeld2011
  clear BX9 BX10 BX11 BX12 BY9 BY10 BY11 BZ9 BZ10 BZ11 HB9 HB10 HB11 HR MK
  have y0 := BY12.out.cell 0
  have y1 := BY12.out.cell 1
  have y2 := BY12.out.cell 2
  have z0 := BZ12.out.cell 0
  have z1 := BZ12.out.cell 1
  have z2 := BZ12.out.cell 2
  simp at y0 y1 y2 z0 z1 z2
  have e0 : (r0 == r0) = true := by simp
  have e1 : (r1 == r1) = true := by simp
  have e2 : (r2 == r2) = true := by simp
  obtain ⟨D, hD⟩ : ∃ D, decide (0 < l.length) = D := ⟨_, rfl⟩
  rw [hD]
  clear hD BY12 BZ12
  have hDD : (D == D) = true := by cases D <;> rfl
  go_wp2_with fail
  refine (has_any p (HV.out.below HB12.out) (by omega)).mono ?_
  rintro e w13 ⟨rfl, hb13⟩
  have HB13 := hid (HB12.out.trans (hb13.mono HB12.out.size))
  clear hb13 HB12 y0 y1 y2 z0 z1 z2
  go_wp2_with fail
  refine (rhas_any p (HV.out.below HB13.out)).mono ?_
  rintro e w14 ⟨rfl, hb14⟩
  have HB14 := hid (HB13.out.trans (hb14.mono HB13.out.size))
  clear hb14 HB13
  generalize hasP l p = hH
  have hHH : (hH == hH) = true := by cases hH <;> rfl
  go_wp2
  go_ret
  exact ⟨rfl, HB14.out⟩
end Go.Proofs.Ytnbifmfocdejpaa
