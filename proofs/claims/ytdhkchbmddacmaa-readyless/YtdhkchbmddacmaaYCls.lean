/-
  cmp.Or of three numbers; the comparison that the sort of package ready is given: it reads, and lays blocks of its own.
-/
import Derived.Test.YtdhkchbmddacmaaShelf
import Derived.Test.YtdhkchbmddacmaaYCould
import Derived.Deep.RegionHeld3
namespace Go.Proofs.Ytdhkchbmddacmaa
open Go.RowKit Go.Shelf
open Go.Sort (grow alloc_eq_grow)
set_option linter.unusedVariables false

def or3 (a b c : Int) : Int := if a ≠ 0 then a else if b ≠ 0 then b else c

set_option maxRecDepth 100000 in
set_option maxHeartbeats 1600000 in
theorem or_any (g : Nat) (a b c : Int) (w : World) (h0 : w.cell? ⟨g, 0, none⟩ = some (.int .i64 a)) (h1 : w.cell? ⟨g, 1, none⟩ = some (.int .i64 b)) (h2 : w.cell? ⟨g, 2, none⟩ = some (.int .i64 c)) :
    Calls Try.prog 18 #[.slice (some ⟨g, 0, none⟩) 3 3] w fun e w' => e = .returned (.int .i64 (or3 a b c)) ∧ w' = w := by
  by_cases ha : a = 0
  · subst ha
    by_cases hb : b = 0
    · subst hb
      have HE := hid (show or3 0 0 c = c from by simp [or3])
      by_cases hc : c = 0
      · subst hc
        go_enter Try.func18, Try.ntmps18
        go_wp2
        refine wp_loop_rounds 4 ?_
        rw [rounds_succ]
        go_wp2
        rw [rounds_succ]
        go_wp2
        rw [rounds_succ]
        go_wp2
        rw [rounds_succ]
        go_wp2
        go_ret
        exact ⟨by rw [HE.out]; rfl, rfl⟩
      · have hcb : (c != 0) = true := by simpa using hc
        go_enter Try.func18, Try.ntmps18
        go_wp2
        refine wp_loop_rounds 3 ?_
        rw [rounds_succ]
        go_wp2
        rw [rounds_succ]
        go_wp2
        rw [rounds_succ]
        go_wp2
        go_ret
        exact ⟨by rw [HE.out]; rfl, rfl⟩
    · have hbb : (b != 0) = true := by simpa using hb
      have HE := hid (show or3 0 b c = b from by simp [or3, hb])
      go_enter Try.func18, Try.ntmps18
      go_wp2
      refine wp_loop_rounds 2 ?_
      rw [rounds_succ]
      go_wp2
      rw [rounds_succ]
      go_wp2
      go_ret
      exact ⟨by rw [HE.out]; rfl, rfl⟩
  · have hab : (a != 0) = true := by simpa using ha
    have HE := hid (show or3 a b c = a from by simp [or3, ha])
    go_enter Try.func18, Try.ntmps18
    go_wp2
    refine wp_loop_rounds 1 ?_
    rw [rounds_succ]
    go_wp2
    go_ret
    exact ⟨by rw [HE.out]; rfl, rfl⟩

theorem cf_or3 (l : List Px) (i j : Nat) : or3 (Lib.compareInt (l.getD j Px.zero).pr (l.getD i Px.zero).pr) (Lib.compareInt (l.getD i Px.zero).si (l.getD j Px.zero).si) (Lib.compareInt (i : Int) (j : Int)) = cfN l i j := rfl

set_option maxRecDepth 100000 in
set_option maxHeartbeats 1600000 in
theorem cls_any (l : List Px) (i j : Nat) (W : World) (gb b off cl : Nat) (hbox : W.cell? ⟨gb, 0, none⟩ = some (.slice (some ⟨b, off, none⟩) l.length cl)) (hi : i < l.length) (hj : j < l.length) (hcl : l.length ≤ 900000)
    (hpi : PxAt W b (off + i * 18) (l.getD i Px.zero)) (hpj : PxAt W b (off + j * 18) (l.getD j Px.zero)) :
    Calls Try.prog 17 #[.int .i64 i, .int .i64 j, .pointer (some ⟨gb, 0, none⟩)] W fun e w' => e = .returned (.int .i64 (cfN l i j)) ∧ ∃ q os, w' = grow (W.drewN q) os := by
  rw [← cf_or3]
  obtain ⟨L, hL⟩ : ∃ L, L = l.length := ⟨_, rfl⟩
  rw [← hL] at hbox hi hj hcl
  have a1 := hpi.pr
  have a2 := hpi.si
  have b1 := hpj.pr
  have b2 := hpj.si
  clear hpi hpj hL
  generalize (l.getD i Px.zero).pr = ip at *
  generalize (l.getD i Px.zero).si = is at *
  generalize (l.getD j Px.zero).pr = jp at *
  generalize (l.getD j Px.zero).si = js at *
  have HC1 := hid (fun x y w => Try.cmp_Compare_int x y w)
  obtain ⟨m1, hm1⟩ : ∃ m, Lib.compareInt jp ip = m := ⟨_, rfl⟩
  obtain ⟨m2, hm2⟩ : ∃ m, Lib.compareInt is js = m := ⟨_, rfl⟩
  obtain ⟨m3, hm3⟩ : ∃ m, Lib.compareInt (i : Int) (j : Int) = m := ⟨_, rfl⟩
  have HC2 := hid (fun w => Try.cmp_Compare_int jp ip w)
  have HC3 := hid (fun w => Try.cmp_Compare_int is js w)
  have HC4 := hid (fun w => Try.cmp_Compare_int (i : Int) (j : Int) w)
  rw [hm1] at HC2 ⊢
  rw [hm2] at HC3 ⊢
  rw [hm3] at HC4 ⊢
  obtain ⟨R, hR⟩ : ∃ R, or3 m1 m2 m3 = R := ⟨_, rfl⟩
  have HO := hid (fun w g h0 h1 h2 => or_any g m1 m2 m3 w h0 h1 h2)
  rw [hR] at HO ⊢
  clear HC1 hm1 hm2 hm3 hR
  have HW : ∀ w' : World, (w'.cell? ⟨gb, 0, none⟩ = some (.slice (some ⟨b, off, none⟩) L cl) ∧ w'.cell? ⟨b, off + i * 18 + 1, none⟩ = some (.int .i64 ip) ∧ w'.cell? ⟨b, off + i * 18 + 8, none⟩ = some (.int .i64 is) ∧ w'.cell? ⟨b, off + j * 18 + 1, none⟩ = some (.int .i64 jp) ∧ w'.cell? ⟨b, off + j * 18 + 8, none⟩ = some (.int .i64 js)) →
      ∀ o, (w'.alloc o).cell? ⟨gb, 0, none⟩ = some (.slice (some ⟨b, off, none⟩) L cl) ∧ (w'.alloc o).cell? ⟨b, off + i * 18 + 1, none⟩ = some (.int .i64 ip) ∧ (w'.alloc o).cell? ⟨b, off + i * 18 + 8, none⟩ = some (.int .i64 is) ∧ (w'.alloc o).cell? ⟨b, off + j * 18 + 1, none⟩ = some (.int .i64 jp) ∧ (w'.alloc o).cell? ⟨b, off + j * 18 + 8, none⟩ = some (.int .i64 js) :=
    fun w' h o => ⟨cellA h.1 o, cellA h.2.1 o, cellA h.2.2.1 o, cellA h.2.2.2.1 o, cellA h.2.2.2.2 o⟩
  have HWA := hid HW
  clear HW
  go_enter Try.func17, Try.ntmps17
  go_wp2_with fail
  refine wp_region_held_drew (S := (fun w' => w'.cell? ⟨gb, 0, none⟩ = some (.slice (some ⟨b, off, none⟩) L cl) ∧ w'.cell? ⟨b, off + i * 18 + 1, none⟩ = some (.int .i64 ip) ∧ w'.cell? ⟨b, off + i * 18 + 8, none⟩ = some (.int .i64 is) ∧ w'.cell? ⟨b, off + j * 18 + 1, none⟩ = some (.int .i64 jp) ∧ w'.cell? ⟨b, off + j * 18 + 8, none⟩ = some (.int .i64 js))) (by kernel_rfl) (⟨hbox, a1, a2, b1, b2⟩) (fun hHeld => ?_)
  refine wpAnyH_take (i := 0) (oi := { dst := some 6, op := Op.load 22 (Operand.tmp 2), type := 22, pos := "ready.go:28", after := #[], guard := none }) (v := ?v1) rfl (by kernel_rfl) (by kernel_rfl) (by kernel_rfl) (fun _ _ _ h => h) (Or.inl ⟨by rfl, ?hy1⟩) (by assumption) ?rest1
  case hy1 => (intro w hSw; (try dsimp only at hSw); go_simp; try with_reducible rfl)
  simp only [Act.put, List.setIfInBounds_toArray, List.set_cons_zero, List.set_cons_succ]
  refine wpAnyH_take (i := 1) (oi := { dst := some 7, op := Op.move (Operand.tmp 1), type := 3, pos := "ready.go:28", after := #[], guard := none }) (v := ?v2) rfl (by kernel_rfl) (by kernel_rfl) (by kernel_rfl) (fun _ _ _ h => h) (Or.inl ⟨by rfl, ?hy2⟩) (by assumption) ?rest2
  case hy2 => (intro w hSw; (try dsimp only at hSw); go_simp; try with_reducible rfl)
  simp only [Act.put, List.setIfInBounds_toArray, List.set_cons_zero, List.set_cons_succ]
  refine wpAnyH_take (i := 2) (oi := { dst := some 8, op := Op.indexAddr 22 (Operand.tmp 6) (Operand.tmp 7), type := 0, pos := "ready.go:28", after := #[{ on := 0, ground := Ground.data }, { on := 1, ground := Ground.data }], guard := none }) (v := ?v3) rfl (by kernel_rfl) (by kernel_rfl) (by kernel_rfl) (fun _ _ _ h => h) (Or.inl ⟨by rfl, ?hy3⟩) (by assumption) ?rest3
  case hy3 => (intro w hSw; (try dsimp only at hSw); go_simp; try with_reducible rfl)
  simp only [Act.put, List.setIfInBounds_toArray, List.set_cons_zero, List.set_cons_succ]
  refine wpAnyH_take (i := 3) (oi := { dst := some 9, op := Op.fieldAddr 33 (Operand.tmp 8) 1, type := 0, pos := "ready.go:28", after := #[{ on := 2, ground := Ground.data }], guard := none }) (v := ?v4) rfl (by kernel_rfl) (by kernel_rfl) (by kernel_rfl) (fun _ _ _ h => h) (Or.inl ⟨by rfl, ?hy4⟩) (by assumption) ?rest4
  case hy4 => (intro w hSw; (try dsimp only at hSw); go_simp; try with_reducible rfl)
  simp only [Act.put, List.setIfInBounds_toArray, List.set_cons_zero, List.set_cons_succ]
  refine wpAnyH_take (i := 4) (oi := { dst := some 10, op := Op.load 3 (Operand.tmp 9), type := 3, pos := "ready.go:28", after := #[{ on := 3, ground := Ground.data }], guard := none }) (v := ?v5) rfl (by kernel_rfl) (by kernel_rfl) (by kernel_rfl) (fun _ _ _ h => h) (Or.inl ⟨by rfl, ?hy5⟩) (by assumption) ?rest5
  case hy5 => (intro w hSw; (try dsimp only at hSw); go_simp; try with_reducible rfl)
  simp only [Act.put, List.setIfInBounds_toArray, List.set_cons_zero, List.set_cons_succ]
  refine wpAnyH_take (i := 5) (oi := { dst := some 11, op := Op.load 22 (Operand.tmp 2), type := 22, pos := "ready.go:28", after := #[], guard := none }) (v := ?v6) rfl (by kernel_rfl) (by kernel_rfl) (by kernel_rfl) (fun _ _ _ h => h) (Or.inl ⟨by rfl, ?hy6⟩) (by assumption) ?rest6
  case hy6 => (intro w hSw; (try dsimp only at hSw); go_simp; try with_reducible rfl)
  simp only [Act.put, List.setIfInBounds_toArray, List.set_cons_zero, List.set_cons_succ]
  refine wpAnyH_take (i := 6) (oi := { dst := some 12, op := Op.move (Operand.tmp 0), type := 3, pos := "ready.go:28", after := #[], guard := none }) (v := ?v7) rfl (by kernel_rfl) (by kernel_rfl) (by kernel_rfl) (fun _ _ _ h => h) (Or.inl ⟨by rfl, ?hy7⟩) (by assumption) ?rest7
  case hy7 => (intro w hSw; (try dsimp only at hSw); go_simp; try with_reducible rfl)
  simp only [Act.put, List.setIfInBounds_toArray, List.set_cons_zero, List.set_cons_succ]
  refine wpAnyH_take (i := 7) (oi := { dst := some 13, op := Op.indexAddr 22 (Operand.tmp 11) (Operand.tmp 12), type := 0, pos := "ready.go:28", after := #[{ on := 5, ground := Ground.data }, { on := 6, ground := Ground.data }], guard := none }) (v := ?v8) rfl (by kernel_rfl) (by kernel_rfl) (by kernel_rfl) (fun _ _ _ h => h) (Or.inl ⟨by rfl, ?hy8⟩) (by assumption) ?rest8
  case hy8 => (intro w hSw; (try dsimp only at hSw); go_simp; try with_reducible rfl)
  simp only [Act.put, List.setIfInBounds_toArray, List.set_cons_zero, List.set_cons_succ]
  refine wpAnyH_take (i := 8) (oi := { dst := some 14, op := Op.fieldAddr 33 (Operand.tmp 13) 1, type := 0, pos := "ready.go:28", after := #[{ on := 7, ground := Ground.data }], guard := none }) (v := ?v9) rfl (by kernel_rfl) (by kernel_rfl) (by kernel_rfl) (fun _ _ _ h => h) (Or.inl ⟨by rfl, ?hy9⟩) (by assumption) ?rest9
  case hy9 => (intro w hSw; (try dsimp only at hSw); go_simp; try with_reducible rfl)
  simp only [Act.put, List.setIfInBounds_toArray, List.set_cons_zero, List.set_cons_succ]
  refine wpAnyH_take (i := 9) (oi := { dst := some 15, op := Op.load 3 (Operand.tmp 14), type := 3, pos := "ready.go:28", after := #[{ on := 8, ground := Ground.data }], guard := none }) (v := ?v10) rfl (by kernel_rfl) (by kernel_rfl) (by kernel_rfl) (fun _ _ _ h => h) (Or.inl ⟨by rfl, ?hy10⟩) (by assumption) ?rest10
  case hy10 => (intro w hSw; (try dsimp only at hSw); go_simp; try with_reducible rfl)
  simp only [Act.put, List.setIfInBounds_toArray, List.set_cons_zero, List.set_cons_succ]
  refine wpAnyH_take (i := 11) (oi := { dst := some 17, op := Op.load 22 (Operand.tmp 2), type := 22, pos := "ready.go:28", after := #[], guard := none }) (v := ?v11) rfl (by kernel_rfl) (by kernel_rfl) (by kernel_rfl) (fun _ _ _ h => h) (Or.inl ⟨by rfl, ?hy11⟩) (by assumption) ?rest11
  case hy11 => (intro w hSw; (try dsimp only at hSw); go_simp; try with_reducible rfl)
  simp only [Act.put, List.setIfInBounds_toArray, List.set_cons_zero, List.set_cons_succ]
  refine wpAnyH_take (i := 12) (oi := { dst := some 18, op := Op.move (Operand.tmp 0), type := 3, pos := "ready.go:28", after := #[], guard := none }) (v := ?v12) rfl (by kernel_rfl) (by kernel_rfl) (by kernel_rfl) (fun _ _ _ h => h) (Or.inl ⟨by rfl, ?hy12⟩) (by assumption) ?rest12
  case hy12 => (intro w hSw; (try dsimp only at hSw); go_simp; try with_reducible rfl)
  simp only [Act.put, List.setIfInBounds_toArray, List.set_cons_zero, List.set_cons_succ]
  refine wpAnyH_take (i := 13) (oi := { dst := some 19, op := Op.indexAddr 22 (Operand.tmp 17) (Operand.tmp 18), type := 0, pos := "ready.go:28", after := #[{ on := 11, ground := Ground.data }, { on := 12, ground := Ground.data }], guard := none }) (v := ?v13) rfl (by kernel_rfl) (by kernel_rfl) (by kernel_rfl) (fun _ _ _ h => h) (Or.inl ⟨by rfl, ?hy13⟩) (by assumption) ?rest13
  case hy13 => (intro w hSw; (try dsimp only at hSw); go_simp; try with_reducible rfl)
  simp only [Act.put, List.setIfInBounds_toArray, List.set_cons_zero, List.set_cons_succ]
  refine wpAnyH_take (i := 14) (oi := { dst := some 20, op := Op.fieldAddr 33 (Operand.tmp 19) 4, type := 0, pos := "ready.go:28", after := #[{ on := 13, ground := Ground.data }], guard := none }) (v := ?v14) rfl (by kernel_rfl) (by kernel_rfl) (by kernel_rfl) (fun _ _ _ h => h) (Or.inl ⟨by rfl, ?hy14⟩) (by assumption) ?rest14
  case hy14 => (intro w hSw; (try dsimp only at hSw); go_simp; try with_reducible rfl)
  simp only [Act.put, List.setIfInBounds_toArray, List.set_cons_zero, List.set_cons_succ]
  refine wpAnyH_take (i := 15) (oi := { dst := some 21, op := Op.load 3 (Operand.tmp 20), type := 3, pos := "ready.go:28", after := #[{ on := 14, ground := Ground.data }], guard := none }) (v := ?v15) rfl (by kernel_rfl) (by kernel_rfl) (by kernel_rfl) (fun _ _ _ h => h) (Or.inl ⟨by rfl, ?hy15⟩) (by assumption) ?rest15
  case hy15 => (intro w hSw; (try dsimp only at hSw); go_simp; try with_reducible rfl)
  simp only [Act.put, List.setIfInBounds_toArray, List.set_cons_zero, List.set_cons_succ]
  refine wpAnyH_take (i := 16) (oi := { dst := some 22, op := Op.load 22 (Operand.tmp 2), type := 22, pos := "ready.go:28", after := #[], guard := none }) (v := ?v16) rfl (by kernel_rfl) (by kernel_rfl) (by kernel_rfl) (fun _ _ _ h => h) (Or.inl ⟨by rfl, ?hy16⟩) (by assumption) ?rest16
  case hy16 => (intro w hSw; (try dsimp only at hSw); go_simp; try with_reducible rfl)
  simp only [Act.put, List.setIfInBounds_toArray, List.set_cons_zero, List.set_cons_succ]
  refine wpAnyH_take (i := 17) (oi := { dst := some 23, op := Op.move (Operand.tmp 1), type := 3, pos := "ready.go:28", after := #[], guard := none }) (v := ?v17) rfl (by kernel_rfl) (by kernel_rfl) (by kernel_rfl) (fun _ _ _ h => h) (Or.inl ⟨by rfl, ?hy17⟩) (by assumption) ?rest17
  case hy17 => (intro w hSw; (try dsimp only at hSw); go_simp; try with_reducible rfl)
  simp only [Act.put, List.setIfInBounds_toArray, List.set_cons_zero, List.set_cons_succ]
  refine wpAnyH_take (i := 18) (oi := { dst := some 24, op := Op.indexAddr 22 (Operand.tmp 22) (Operand.tmp 23), type := 0, pos := "ready.go:28", after := #[{ on := 16, ground := Ground.data }, { on := 17, ground := Ground.data }], guard := none }) (v := ?v18) rfl (by kernel_rfl) (by kernel_rfl) (by kernel_rfl) (fun _ _ _ h => h) (Or.inl ⟨by rfl, ?hy18⟩) (by assumption) ?rest18
  case hy18 => (intro w hSw; (try dsimp only at hSw); go_simp; try with_reducible rfl)
  simp only [Act.put, List.setIfInBounds_toArray, List.set_cons_zero, List.set_cons_succ]
  refine wpAnyH_take (i := 19) (oi := { dst := some 25, op := Op.fieldAddr 33 (Operand.tmp 24) 4, type := 0, pos := "ready.go:28", after := #[{ on := 18, ground := Ground.data }], guard := none }) (v := ?v19) rfl (by kernel_rfl) (by kernel_rfl) (by kernel_rfl) (fun _ _ _ h => h) (Or.inl ⟨by rfl, ?hy19⟩) (by assumption) ?rest19
  case hy19 => (intro w hSw; (try dsimp only at hSw); go_simp; try with_reducible rfl)
  simp only [Act.put, List.setIfInBounds_toArray, List.set_cons_zero, List.set_cons_succ]
  refine wpAnyH_take (i := 20) (oi := { dst := some 26, op := Op.load 3 (Operand.tmp 25), type := 3, pos := "ready.go:28", after := #[{ on := 19, ground := Ground.data }], guard := none }) (v := ?v20) rfl (by kernel_rfl) (by kernel_rfl) (by kernel_rfl) (fun _ _ _ h => h) (Or.inl ⟨by rfl, ?hy20⟩) (by assumption) ?rest20
  case hy20 => (intro w hSw; (try dsimp only at hSw); go_simp; try with_reducible rfl)
  simp only [Act.put, List.setIfInBounds_toArray, List.set_cons_zero, List.set_cons_succ]
  refine wpAnyH_take (i := 22) (oi := { dst := some 28, op := Op.move (Operand.tmp 0), type := 3, pos := "ready.go:28", after := #[], guard := none }) (v := ?v21) rfl (by kernel_rfl) (by kernel_rfl) (by kernel_rfl) (fun _ _ _ h => h) (Or.inl ⟨by rfl, ?hy21⟩) (by assumption) ?rest21
  case hy21 => (intro w hSw; (try dsimp only at hSw); go_simp; try with_reducible rfl)
  simp only [Act.put, List.setIfInBounds_toArray, List.set_cons_zero, List.set_cons_succ]
  refine wpAnyH_take (i := 23) (oi := { dst := some 29, op := Op.move (Operand.tmp 1), type := 3, pos := "ready.go:28", after := #[], guard := none }) (v := ?v22) rfl (by kernel_rfl) (by kernel_rfl) (by kernel_rfl) (fun _ _ _ h => h) (Or.inl ⟨by rfl, ?hy22⟩) (by assumption) ?rest22
  case hy22 => (intro w hSw; (try dsimp only at hSw); go_simp; try with_reducible rfl)
  simp only [Act.put, List.setIfInBounds_toArray, List.set_cons_zero, List.set_cons_succ]
  refine wpAnyH_ready (rs := [10]) (by kernel_rfl) (by simp) (AllReadyH.cons (o := { dst := some 16, op := Op.call { callee := Callee.value (Operand.func 19), args := #[Operand.tmp 10, Operand.tmp 15], argTypes := #[3, 3] }, type := 3, pos := "ready.go:29", after := #[{ on := 4, ground := Ground.data }, { on := 9, ground := Ground.data }], guard := none }) rfl (fun K23 hK23 => ?_) AllReadyH.nil)
  go_simp
  refine (HC2.out _).mono ?_
  rintro e u23 ⟨rfl, rfl⟩
  refine hK23.out _ _ (hHeld) (fun hHeld23 => ?_)
  clear hK23 K23
  try simp only [Act.put, List.setIfInBounds_toArray, List.set_cons_zero, List.set_cons_succ]
  refine wpAnyH_ready (rs := [21]) (by kernel_rfl) (by simp) (AllReadyH.cons (o := { dst := some 27, op := Op.call { callee := Callee.value (Operand.func 19), args := #[Operand.tmp 21, Operand.tmp 26], argTypes := #[3, 3] }, type := 3, pos := "ready.go:30", after := #[{ on := 15, ground := Ground.data }, { on := 20, ground := Ground.data }, { on := 10, ground := Ground.chain }], guard := none }) rfl (fun K24 hK24 => ?_) AllReadyH.nil)
  go_simp
  refine (HC3.out _).mono ?_
  rintro e u24 ⟨rfl, rfl⟩
  refine hK24.out _ _ (hHeld23) (fun hHeld24 => ?_)
  clear hK24 K24
  try simp only [Act.put, List.setIfInBounds_toArray, List.set_cons_zero, List.set_cons_succ]
  refine wpAnyH_ready (rs := [24]) (by kernel_rfl) (by simp) (AllReadyH.cons (o := { dst := some 30, op := Op.call { callee := Callee.value (Operand.func 19), args := #[Operand.tmp 28, Operand.tmp 29], argTypes := #[3, 3] }, type := 3, pos := "ready.go:31", after := #[{ on := 22, ground := Ground.data }, { on := 23, ground := Ground.data }, { on := 21, ground := Ground.chain }], guard := none }) rfl (fun K25 hK25 => ?_) AllReadyH.nil)
  go_simp
  refine (HC4.out _).mono ?_
  rintro e u25 ⟨rfl, rfl⟩
  refine hK25.out _ _ (hHeld24) (fun hHeld25 => ?_)
  clear hK25 K25
  try simp only [Act.put, List.setIfInBounds_toArray, List.set_cons_zero, List.set_cons_succ]
  refine wpAnyH_ready (rs := [25]) (by kernel_rfl) (by simp) (AllReadyH.cons (o := { dst := some 31, op := Op.buildSlice 25 3 #[(0, Operand.tmp 16), (1, Operand.tmp 27), (2, Operand.tmp 30)], type := 25, pos := "ready.go:28", after := #[{ on := 10, ground := Ground.data }, { on := 21, ground := Ground.data }, { on := 24, ground := Ground.data }], guard := none }) rfl (fun K26 hK26 => ?_) AllReadyH.nil)
  go_simp
  refine hK26.out _ _ (HWA.out _ hHeld25 _) (fun hHeld26 => ?_)
  clear hK26 K26
  try simp only [Act.put, List.setIfInBounds_toArray, List.set_cons_zero, List.set_cons_succ]
  refine wpAnyH_ready (rs := [26]) (by kernel_rfl) (by simp) (AllReadyH.cons (o := { dst := some 32, op := Op.call { callee := Callee.value (Operand.func 18), args := #[Operand.tmp 31], argTypes := #[25] }, type := 3, pos := "ready.go:28", after := #[{ on := 25, ground := Ground.data }, { on := 24, ground := Ground.chain }], guard := none }) rfl (fun K27 hK27 => ?_) AllReadyH.nil)
  go_simp
  refine (HO.out _ _ (by simp) (by simp) (by simp)).mono ?_
  rintro e u27 ⟨rfl, rfl⟩
  refine hK27.out _ _ (hHeld26) (fun hHeld27 => ?_)
  clear hK27 K27
  try simp only [Act.put, List.setIfInBounds_toArray, List.set_cons_zero, List.set_cons_succ]
  refine wpAnyH_take (i := 27) (oi := { dst := some 5, op := Op.assign (Operand.tmp 32), type := 3, pos := "ready.go:28", after := #[{ on := 26, ground := Ground.data }, { on := 26, ground := Ground.chain }, { on := 0, ground := Ground.phase }, { on := 1, ground := Ground.phase }, { on := 2, ground := Ground.phase }, { on := 3, ground := Ground.phase }, { on := 4, ground := Ground.phase }, { on := 5, ground := Ground.phase }, { on := 6, ground := Ground.phase }, { on := 7, ground := Ground.phase }, { on := 8, ground := Ground.phase }, { on := 9, ground := Ground.phase }, { on := 10, ground := Ground.phase }, { on := 11, ground := Ground.phase }, { on := 12, ground := Ground.phase }, { on := 13, ground := Ground.phase }, { on := 14, ground := Ground.phase }, { on := 15, ground := Ground.phase }, { on := 16, ground := Ground.phase }, { on := 17, ground := Ground.phase }, { on := 18, ground := Ground.phase }, { on := 19, ground := Ground.phase }, { on := 20, ground := Ground.phase }, { on := 21, ground := Ground.phase }, { on := 22, ground := Ground.phase }, { on := 23, ground := Ground.phase }, { on := 24, ground := Ground.phase }, { on := 25, ground := Ground.phase }, { on := 26, ground := Ground.phase }], guard := none }) (v := ?v28) rfl (by kernel_rfl) (by kernel_rfl) (by kernel_rfl) (fun _ _ _ h => h) (Or.inl ⟨by rfl, ?hy28⟩) (by assumption) ?rest28
  case hy28 => (intro w hSw; (try dsimp only at hSw); go_simp; try with_reducible rfl)
  simp only [Act.put, List.setIfInBounds_toArray, List.set_cons_zero, List.set_cons_succ]
  refine wpAnyH_done (by kernel_rfl) ?_ _
  go_wp2
  go_ret
  exact ⟨rfl, 1, #[.cells #[.int .i64 m1, .int .i64 m2, .int .i64 m3] 3], by rw [← alloc_eq_grow]; rfl⟩
end Go.Proofs.Ytdhkchbmddacmaa
