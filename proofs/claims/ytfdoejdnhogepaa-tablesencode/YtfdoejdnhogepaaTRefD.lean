/-
  What the document's tests of windows, of channels and of a configuration return, whatever they are given, and that nothing that was there is written.
-/
import Derived.Test.YtfdoejdnhogepaaTRefC
import Derived.Deep.RegionHeld3
namespace Go.Proofs.Ytfdoejdnhogepaa
open Go.RowKit
set_option linter.unusedVariables false

theorem rports_le {w : World} {q : Cv} {c : Cf} (hS : CfAt w q c) (p : Int) (qu : Bool) : rportsN c.pa p qu ≤ 9223372036854775807 := by
  unfold rportsN
  split
  · rename_i h
    obtain ⟨qs, hq, hln, hpt⟩ := hS.pa
    have hx := hpt p.toNat (by omega)
    have h1 := hx.sa.n_eq
    have h2 := hx.qu.n_eq
    unfold portsC
    split
    · simp only; omega
    · simp only; omega
  · omega

def rchanB (pa : List Pt) (l : List Ch) (x : Ch) : Bool := hasEndC pa (fromE x) && hasEndC pa (toE x) && decide (x.f ≠ x.t) && decide (endsN l (fromE x) ≤ 1) && decide (endsN l (toE x) ≤ 1)

set_option maxRecDepth 100000 in
set_option maxHeartbeats 4000000 in
theorem rchannels_any (q : Cv) (c : Cf) (w : World) (hS : CfAt w q c) :
    Calls Try.prog 41 #[q.val] w fun e w' => e = .returned (.bool (inB 0 8 c.ch.length && allN (fun i => rchanB c.pa c.ch (c.ch.getD i Ch.zero)) c.ch.length)) ∧ Below w.heap.size w w' := by
  obtain ⟨fr, sw, ⟨a1, n1, k1⟩, ⟨a2, n2, k2⟩, ⟨a3, n3, k3⟩, ⟨a4, n4, k4⟩⟩ := q
  obtain ⟨al, cl, hval, hl1, hl2, hlc⟩ := hS.ch.form
  simp only [Sl.val, Value.slice.injEq] at hval
  obtain ⟨rfl, hn4, rfl⟩ := hval
  unfold maxLen at hl2
  have HC := hid hlc
  have HN4 := hid hn4
  have HSS := hid hS
  have hB : Below w.heap.size w (w.alloc (.cells #[.int .i64 fr, .int .i64 sw, .slice a1 n1 k1, .slice a2 n2 k2, .slice a3 n3 k3, .slice a4 n4 k4] 27)) := (Below.refl _ _).alloc (Nat.le_refl _) _
  have HB := hid hB
  have HX := hid (BoxAt.new w 27 #[.int .i64 fr, .int .i64 sw, .slice a1 n1 k1, .slice a2 n2 k2, .slice a3 n3 k3, .slice a4 n4 k4])
  obtain ⟨R, hR⟩ : ∃ r, (inB 0 8 c.ch.length && allN (fun i => rchanB c.pa c.ch (c.ch.getD i Ch.zero)) c.ch.length) = r := ⟨_, rfl⟩
  rw [hR]
  have HR := hid hR
  clear hB hlc hS hR
  unfold Cv.val
  simp only
  rw [← hn4] at hl1
  clear hn4
  go_enter Try.func41, Try.ntmps41
  by_cases g1 : (8 : Int) < (n4 : Int)
  · have HE := hid (show R = false by
      have : inB 0 8 (c.ch.length : Int) = false := by rw [← HN4.out]; simp [inB]; omega
      rw [← HR.out, this]; rfl)
    go_wp2
    go_ret
    exact ⟨by rw [HE.out]; rfl, HB.out⟩
  have HI := hid (show inB 0 8 (c.ch.length : Int) = true by rw [← HN4.out]; simp [inB]; omega)
  go_wp2
  generalize w.alloc (.cells #[.int .i64 fr, .int .i64 sw, .slice a1 n1 k1, .slice a2 n2 k2, .slice a3 n3 k3, .slice a4 n4 k4] 27) = w0 at *
  go_loopw [3] (fun t wc => ∃ i : Nat, i ≤ n4 ∧ t = .int .i64 i ∧ (∀ j, j < i → rchanB c.pa c.ch (c.ch.getD j Ch.zero) = true) ∧ Below w0.heap.size w0 wc) (fun t _ => n4 - (intOf t).toNat)
  case atStart => exact ⟨0, by omega, rfl, by intro j hj; omega, Below.refl _ _⟩
  case round =>
    obtain ⟨i, hi, rfl, hgood, hbel⟩ := hrel
    have HG := hid hgood
    clear hgood
    have e5 := ((HX.out.belowAll hbel).cell 5).trans rfl
    by_cases hlt : i < n4
    · have hlt' : i < c.ch.length := by rw [← HN4.out]; exact hlt
      obtain ⟨bb, off, rfl, hbw, hcell⟩ := HC.out (by omega)
      have HWr := hid (HB.out.trans (hbel.mono HB.out.size))
      have c0 := (HWr.out.cell (by exact hbw)).trans (hcell i hlt' 0 (by decide))
      have c1 := (HWr.out.cell (by exact hbw)).trans (hcell i hlt' 1 (by decide))
      have c2 := (HWr.out.cell (by exact hbw)).trans (hcell i hlt' 2 (by decide))
      have c3 := (HWr.out.cell (by exact hbw)).trans (hcell i hlt' 3 (by decide))
      have c4 := (HWr.out.cell (by exact hbw)).trans (hcell i hlt' 4 (by decide))
      have HNo := hid (show rchanB c.pa c.ch (c.ch.getD i Ch.zero) = false → R = false from fun h => by rw [← HR.out, allN_no _ _ i hlt' h, Bool.and_false])
      have HGo := hid (show rchanB c.pa c.ch (c.ch.getD i Ch.zero) = true → ∀ j, j < i + 1 → rchanB c.pa c.ch (c.ch.getD j Ch.zero) = true by
        intro h j hj
        by_cases e : j = i
        · subst e; exact h
        · exact HG.out j (by omega))
      clear hcell HC HG hlt'
      generalize c.ch.getD i Ch.zero = x at *
      obtain ⟨xq, xf, xa, xt, xb⟩ := x
      simp only [Ch.cells, List.getD_cons_zero, List.getD_cons_succ, Nat.add_zero] at c0 c1 c2 c3 c4
      have hA : Below w0.heap.size w0 (wr.alloc (.cells #[.bool xq, .int .i64 xf, .int .i64 xa, .int .i64 xt, .int .i64 xb] 41)) := hbel.alloc hbel.size _
      have HA := hid hA
      have HX1 := hid (HX.out.belowAll hA)
      have HY1 := hid (BoxAt.new wr 41 #[.bool xq, .int .i64 xf, .int .i64 xa, .int .i64 xt, .int .i64 xb])
      have HS1 := hid (show ∀ w', Below (wr.alloc (.cells #[.bool xq, .int .i64 xf, .int .i64 xa, .int .i64 xt, .int .i64 xb] 41)).heap.size (wr.alloc (.cells #[.bool xq, .int .i64 xf, .int .i64 xa, .int .i64 xt, .int .i64 xb] 41)) w' → CfAt w' ⟨fr, sw, ⟨a1, n1, k1⟩, ⟨a2, n2, k2⟩, ⟨a3, n3, k3⟩, ⟨some ⟨bb, off, none⟩, n4, k4⟩⟩ c from fun w' h => (HSS.out.below (HB.out.trans (hA.mono HB.out.size))).below h)
      obtain ⟨P1, hP1⟩ : ∃ n, rportsN c.pa xf xq = n := ⟨_, rfl⟩
      obtain ⟨P2, hP2⟩ : ∃ n, rportsN c.pa xt xq = n := ⟨_, rfl⟩
      obtain ⟨b1, hb1⟩ : ∃ b, inB 0 ((P1 : Int) - 1) xa = b := ⟨_, rfl⟩
      obtain ⟨b2, hb2⟩ : ∃ b, inB 0 ((P2 : Int) - 1) xb = b := ⟨_, rfl⟩
      have hp1 : P1 ≤ 9223372036854775807 := by rw [← hP1]; exact rports_le HSS.out _ _
      have hp2 : P2 ≤ 9223372036854775807 := by rw [← hP2]; exact rports_le HSS.out _ _
      have w1 : IntKind.i64.wrap ((P1 : Int) - 1) = (P1 : Int) - 1 := by rw [IntKind.wrap_i64]; omega
      have w2 : IntKind.i64.wrap ((P2 : Int) - 1) = (P2 : Int) - 1 := by rw [IntKind.wrap_i64]; omega
      have HP1 := hid hP1
      have HP2 := hid hP2
      have Hb1 := hid hb1
      have Hb2 := hid hb2
      have HRC := hid (show rchanB c.pa c.ch ⟨xq, xf, xa, xt, xb⟩ = (b1 && b2 && decide (xf ≠ xt) && decide (endsN c.ch ⟨xq, xf, xa⟩ ≤ 1) && decide (endsN c.ch ⟨xq, xt, xb⟩ ≤ 1)) by
        have k1 := ports_has c.pa ⟨xq, xf, xa⟩
        have k2 := ports_has c.pa ⟨xq, xt, xb⟩
        simp only [hP1, hb1] at k1
        simp only [hP2, hb2] at k2
        simp only [rchanB, fromE, toE]
        rw [← k1, ← k2]
        rfl)
      clear hP1 hP2 hb1 hb2 hA hp1 hp2
      go_wp2_with fail
      generalize wr.alloc (.cells #[.bool xq, .int .i64 xf, .int .i64 xa, .int .i64 xt, .int .i64 xb] 41) = W1 at *
      have MK := hid (show ∀ w', Below W1.heap.size W1 w' → Below W1.heap.size W1 w' ∧ w'.cell? ⟨w.heap.size, 0, none⟩ = some (.int .i64 fr) ∧ w'.cell? ⟨w.heap.size, 1, none⟩ = some (.int .i64 sw) ∧ w'.cell? ⟨w.heap.size, 2, none⟩ = some (.slice a1 n1 k1) ∧ w'.cell? ⟨w.heap.size, 3, none⟩ = some (.slice a2 n2 k2) ∧ w'.cell? ⟨w.heap.size, 4, none⟩ = some (.slice a3 n3 k3) ∧ w'.cell? ⟨w.heap.size, 5, none⟩ = some (.slice (some ⟨bb, off, none⟩) n4 k4) ∧ w'.cell? ⟨wr.heap.size, 0, none⟩ = some (.bool xq) ∧ w'.cell? ⟨wr.heap.size, 1, none⟩ = some (.int .i64 xf) ∧ w'.cell? ⟨wr.heap.size, 2, none⟩ = some (.int .i64 xa) ∧ w'.cell? ⟨wr.heap.size, 3, none⟩ = some (.int .i64 xt) ∧ w'.cell? ⟨wr.heap.size, 4, none⟩ = some (.int .i64 xb) from fun w' h => ⟨h, ((HX1.out.belowAll h).cell 0).trans rfl, ((HX1.out.belowAll h).cell 1).trans rfl, ((HX1.out.belowAll h).cell 2).trans rfl, ((HX1.out.belowAll h).cell 3).trans rfl, ((HX1.out.belowAll h).cell 4).trans rfl, ((HX1.out.belowAll h).cell 5).trans rfl, ((HY1.out.belowAll h).cell 0).trans rfl, ((HY1.out.belowAll h).cell 1).trans rfl, ((HY1.out.belowAll h).cell 2).trans rfl, ((HY1.out.belowAll h).cell 3).trans rfl, ((HY1.out.belowAll h).cell 4).trans rfl⟩)
      clear HX1 HY1 c0 c1 c2 c3 c4 e5
      refine wp_region_held_drew (S := (fun w' => Below W1.heap.size W1 w' ∧ w'.cell? ⟨w.heap.size, 0, none⟩ = some (.int .i64 fr) ∧ w'.cell? ⟨w.heap.size, 1, none⟩ = some (.int .i64 sw) ∧ w'.cell? ⟨w.heap.size, 2, none⟩ = some (.slice a1 n1 k1) ∧ w'.cell? ⟨w.heap.size, 3, none⟩ = some (.slice a2 n2 k2) ∧ w'.cell? ⟨w.heap.size, 4, none⟩ = some (.slice a3 n3 k3) ∧ w'.cell? ⟨w.heap.size, 5, none⟩ = some (.slice (some ⟨bb, off, none⟩) n4 k4) ∧ w'.cell? ⟨wr.heap.size, 0, none⟩ = some (.bool xq) ∧ w'.cell? ⟨wr.heap.size, 1, none⟩ = some (.int .i64 xf) ∧ w'.cell? ⟨wr.heap.size, 2, none⟩ = some (.int .i64 xa) ∧ w'.cell? ⟨wr.heap.size, 3, none⟩ = some (.int .i64 xt) ∧ w'.cell? ⟨wr.heap.size, 4, none⟩ = some (.int .i64 xb))) (by kernel_rfl) (MK.out _ (Below.refl _ _).drew) (fun hHeld => ?_)
      refine wpAnyH_take (i := 0) (oi := { dst := some 23, op := Op.fieldAddr 41 (Operand.tmp 4) 2, type := 0, pos := "ref.go:113", after := #[], guard := none }) (v := ?v1) rfl (by kernel_rfl) (by kernel_rfl) (by kernel_rfl) (fun _ _ _ h => h) (Or.inl ⟨by rfl, ?hy1⟩) (by assumption) ?rest1
      case hy1 => (intro w hSw; (try dsimp only at hSw); go_simp; try with_reducible rfl)
      simp only [Act.put, List.setIfInBounds_toArray, List.set_cons_zero, List.set_cons_succ]
      refine wpAnyH_take (i := 1) (oi := { dst := some 24, op := Op.load 3 (Operand.tmp 23), type := 3, pos := "ref.go:113", after := #[{ on := 0, ground := Ground.data }], guard := none }) (v := ?v2) rfl (by kernel_rfl) (by kernel_rfl) (by kernel_rfl) (fun _ _ _ h => h) (Or.inl ⟨by rfl, ?hy2⟩) (by assumption) ?rest2
      case hy2 => (intro w hSw; (try dsimp only at hSw); go_simp; try with_reducible rfl)
      simp only [Act.put, List.setIfInBounds_toArray, List.set_cons_zero, List.set_cons_succ]
      refine wpAnyH_take (i := 2) (oi := { dst := some 25, op := Op.load 27 (Operand.tmp 1), type := 27, pos := "ref.go:113", after := #[], guard := none }) (v := ?v3) rfl (by kernel_rfl) (by kernel_rfl) (by kernel_rfl) (fun _ _ _ h => h) (Or.inl ⟨by rfl, ?hy3⟩) (by assumption) ?rest3
      case hy3 => (intro w hSw; (try dsimp only at hSw); go_simp; try with_reducible rfl)
      simp only [Act.put, List.setIfInBounds_toArray, List.set_cons_zero, List.set_cons_succ]
      refine wpAnyH_take (i := 3) (oi := { dst := some 26, op := Op.fieldAddr 41 (Operand.tmp 4) 1, type := 0, pos := "ref.go:113", after := #[], guard := none }) (v := ?v4) rfl (by kernel_rfl) (by kernel_rfl) (by kernel_rfl) (fun _ _ _ h => h) (Or.inl ⟨by rfl, ?hy4⟩) (by assumption) ?rest4
      case hy4 => (intro w hSw; (try dsimp only at hSw); go_simp; try with_reducible rfl)
      simp only [Act.put, List.setIfInBounds_toArray, List.set_cons_zero, List.set_cons_succ]
      refine wpAnyH_take (i := 4) (oi := { dst := some 27, op := Op.load 3 (Operand.tmp 26), type := 3, pos := "ref.go:113", after := #[{ on := 3, ground := Ground.data }], guard := none }) (v := ?v5) rfl (by kernel_rfl) (by kernel_rfl) (by kernel_rfl) (fun _ _ _ h => h) (Or.inl ⟨by rfl, ?hy5⟩) (by assumption) ?rest5
      case hy5 => (intro w hSw; (try dsimp only at hSw); go_simp; try with_reducible rfl)
      simp only [Act.put, List.setIfInBounds_toArray, List.set_cons_zero, List.set_cons_succ]
      refine wpAnyH_take (i := 5) (oi := { dst := some 28, op := Op.fieldAddr 41 (Operand.tmp 4) 0, type := 0, pos := "ref.go:113", after := #[], guard := none }) (v := ?v6) rfl (by kernel_rfl) (by kernel_rfl) (by kernel_rfl) (fun _ _ _ h => h) (Or.inl ⟨by rfl, ?hy6⟩) (by assumption) ?rest6
      case hy6 => (intro w hSw; (try dsimp only at hSw); go_simp; try with_reducible rfl)
      simp only [Act.put, List.setIfInBounds_toArray, List.set_cons_zero, List.set_cons_succ]
      refine wpAnyH_take (i := 6) (oi := { dst := some 29, op := Op.load 4 (Operand.tmp 28), type := 4, pos := "ref.go:113", after := #[{ on := 5, ground := Ground.data }], guard := none }) (v := ?v7) rfl (by kernel_rfl) (by kernel_rfl) (by kernel_rfl) (fun _ _ _ h => h) (Or.inl ⟨by rfl, ?hy7⟩) (by assumption) ?rest7
      case hy7 => (intro w hSw; (try dsimp only at hSw); go_simp; try with_reducible rfl)
      simp only [Act.put, List.setIfInBounds_toArray, List.set_cons_zero, List.set_cons_succ]
      refine wpAnyH_ready (rs := [7]) (by kernel_rfl) (by simp) (AllReadyH.cons (o := { dst := some 30, op := Op.call { callee := Callee.value (Operand.func 74), args := #[Operand.tmp 25, Operand.tmp 27, Operand.tmp 29], argTypes := #[27, 3, 4] }, type := 3, pos := "ref.go:113", after := #[{ on := 2, ground := Ground.data }, { on := 4, ground := Ground.data }, { on := 6, ground := Ground.data }], guard := none }) rfl (fun K8 hK8 => ?_) AllReadyH.nil)
      go_simp
      refine (rports_any ⟨fr, sw, ⟨a1, n1, k1⟩, ⟨a2, n2, k2⟩, ⟨a3, n3, k3⟩, ⟨some ⟨bb, off, none⟩, n4, k4⟩⟩ c xf xq _ (HS1.out _ hHeld.1)).mono ?_
      rintro e u8 ⟨rfl, hb8⟩
      rw [HP1.out]
      refine hK8.out _ _ (MK.out _ (hHeld.1.trans (hb8.mono hHeld.1.size))) (fun hHeld8 => ?_)
      clear hK8 K8
      try simp only [Act.put, List.setIfInBounds_toArray, List.set_cons_zero, List.set_cons_succ]
      refine wpAnyH_take (i := 8) (oi := { dst := some 31, op := Op.binOp BinOp.sub 3 (Operand.tmp 30) (Operand.const (Value.int IntKind.i64 1)) 3, type := 3, pos := "ref.go:113", after := #[{ on := 7, ground := Ground.data }], guard := none }) (v := ?v9) rfl (by kernel_rfl) (by kernel_rfl) (by kernel_rfl) (fun _ _ _ h => h) (Or.inl ⟨by rfl, ?hy9⟩) (by assumption) ?rest9
      case hy9 => (intro w hSw; (try dsimp only at hSw); go_simp; try with_reducible rfl)
      simp only [Act.put, List.setIfInBounds_toArray, List.set_cons_zero, List.set_cons_succ]
      refine wpAnyH_ready (rs := [9]) (by kernel_rfl) (by simp) (AllReadyH.cons (o := { dst := some 32, op := Op.call { callee := Callee.value (Operand.func 37), args := #[Operand.tmp 24, Operand.const (Value.int IntKind.i64 0), Operand.tmp 31], argTypes := #[3, 3, 3] }, type := 4, pos := "ref.go:113", after := #[{ on := 1, ground := Ground.data }, { on := 8, ground := Ground.data }, { on := 7, ground := Ground.chain }], guard := none }) rfl (fun K10 hK10 => ?_) AllReadyH.nil)
      go_simp
      refine (rin_any xa 0 ((P1 : Int) - 1) _).mono ?_
      rintro e u10 ⟨rfl, rfl⟩
      rw [Hb1.out]
      refine hK10.out _ _ (hHeld8) (fun hHeld10 => ?_)
      clear hK10 K10
      try simp only [Act.put, List.setIfInBounds_toArray, List.set_cons_zero, List.set_cons_succ]
      refine wpAnyH_take (i := 10) (oi := { dst := some 5, op := Op.assign (Operand.tmp 32), type := 4, pos := "ref.go:113", after := #[{ on := 9, ground := Ground.data }, { on := 9, ground := Ground.chain }, { on := 0, ground := Ground.phase }, { on := 1, ground := Ground.phase }, { on := 2, ground := Ground.phase }, { on := 3, ground := Ground.phase }, { on := 4, ground := Ground.phase }, { on := 5, ground := Ground.phase }, { on := 6, ground := Ground.phase }, { on := 7, ground := Ground.phase }, { on := 8, ground := Ground.phase }, { on := 9, ground := Ground.phase }], guard := none }) (v := ?v11) rfl (by kernel_rfl) (by kernel_rfl) (by kernel_rfl) (fun _ _ _ h => h) (Or.inl ⟨by rfl, ?hy11⟩) (by assumption) ?rest11
      case hy11 => (intro w hSw; (try dsimp only at hSw); go_simp; try with_reducible rfl)
      simp only [Act.put, List.setIfInBounds_toArray, List.set_cons_zero, List.set_cons_succ]
      refine wpAnyH_done (by kernel_rfl) ?_ _
      go_wp2_with fail
      refine wp_region_held_drew (S := (fun w' => Below W1.heap.size W1 w' ∧ w'.cell? ⟨w.heap.size, 0, none⟩ = some (.int .i64 fr) ∧ w'.cell? ⟨w.heap.size, 1, none⟩ = some (.int .i64 sw) ∧ w'.cell? ⟨w.heap.size, 2, none⟩ = some (.slice a1 n1 k1) ∧ w'.cell? ⟨w.heap.size, 3, none⟩ = some (.slice a2 n2 k2) ∧ w'.cell? ⟨w.heap.size, 4, none⟩ = some (.slice a3 n3 k3) ∧ w'.cell? ⟨w.heap.size, 5, none⟩ = some (.slice (some ⟨bb, off, none⟩) n4 k4) ∧ w'.cell? ⟨wr.heap.size, 0, none⟩ = some (.bool xq) ∧ w'.cell? ⟨wr.heap.size, 1, none⟩ = some (.int .i64 xf) ∧ w'.cell? ⟨wr.heap.size, 2, none⟩ = some (.int .i64 xa) ∧ w'.cell? ⟨wr.heap.size, 3, none⟩ = some (.int .i64 xt) ∧ w'.cell? ⟨wr.heap.size, 4, none⟩ = some (.int .i64 xb))) (by kernel_rfl) (MK.out _ hHeld10.1.drew) (fun hHx => ?_)
      refine wpAnyH_take (i := 0) (oi := { dst := some 33, op := Op.fieldAddr 41 (Operand.tmp 4) 4, type := 0, pos := "ref.go:114", after := #[], guard := none }) (v := ?v101) rfl (by kernel_rfl) (by kernel_rfl) (by kernel_rfl) (fun _ _ _ h => h) (Or.inl ⟨by rfl, ?hy101⟩) (by assumption) ?rest101
      case hy101 => (intro w hSw; (try dsimp only at hSw); go_simp; try with_reducible rfl)
      simp only [Act.put, List.setIfInBounds_toArray, List.set_cons_zero, List.set_cons_succ]
      refine wpAnyH_take (i := 1) (oi := { dst := some 34, op := Op.load 3 (Operand.tmp 33), type := 3, pos := "ref.go:114", after := #[{ on := 0, ground := Ground.data }], guard := none }) (v := ?v102) rfl (by kernel_rfl) (by kernel_rfl) (by kernel_rfl) (fun _ _ _ h => h) (Or.inl ⟨by rfl, ?hy102⟩) (by assumption) ?rest102
      case hy102 => (intro w hSw; (try dsimp only at hSw); go_simp; try with_reducible rfl)
      simp only [Act.put, List.setIfInBounds_toArray, List.set_cons_zero, List.set_cons_succ]
      refine wpAnyH_take (i := 2) (oi := { dst := some 35, op := Op.load 27 (Operand.tmp 1), type := 27, pos := "ref.go:114", after := #[], guard := none }) (v := ?v103) rfl (by kernel_rfl) (by kernel_rfl) (by kernel_rfl) (fun _ _ _ h => h) (Or.inl ⟨by rfl, ?hy103⟩) (by assumption) ?rest103
      case hy103 => (intro w hSw; (try dsimp only at hSw); go_simp; try with_reducible rfl)
      simp only [Act.put, List.setIfInBounds_toArray, List.set_cons_zero, List.set_cons_succ]
      refine wpAnyH_take (i := 3) (oi := { dst := some 36, op := Op.fieldAddr 41 (Operand.tmp 4) 3, type := 0, pos := "ref.go:114", after := #[], guard := none }) (v := ?v104) rfl (by kernel_rfl) (by kernel_rfl) (by kernel_rfl) (fun _ _ _ h => h) (Or.inl ⟨by rfl, ?hy104⟩) (by assumption) ?rest104
      case hy104 => (intro w hSw; (try dsimp only at hSw); go_simp; try with_reducible rfl)
      simp only [Act.put, List.setIfInBounds_toArray, List.set_cons_zero, List.set_cons_succ]
      refine wpAnyH_take (i := 4) (oi := { dst := some 37, op := Op.load 3 (Operand.tmp 36), type := 3, pos := "ref.go:114", after := #[{ on := 3, ground := Ground.data }], guard := none }) (v := ?v105) rfl (by kernel_rfl) (by kernel_rfl) (by kernel_rfl) (fun _ _ _ h => h) (Or.inl ⟨by rfl, ?hy105⟩) (by assumption) ?rest105
      case hy105 => (intro w hSw; (try dsimp only at hSw); go_simp; try with_reducible rfl)
      simp only [Act.put, List.setIfInBounds_toArray, List.set_cons_zero, List.set_cons_succ]
      refine wpAnyH_take (i := 5) (oi := { dst := some 38, op := Op.fieldAddr 41 (Operand.tmp 4) 0, type := 0, pos := "ref.go:114", after := #[], guard := none }) (v := ?v106) rfl (by kernel_rfl) (by kernel_rfl) (by kernel_rfl) (fun _ _ _ h => h) (Or.inl ⟨by rfl, ?hy106⟩) (by assumption) ?rest106
      case hy106 => (intro w hSw; (try dsimp only at hSw); go_simp; try with_reducible rfl)
      simp only [Act.put, List.setIfInBounds_toArray, List.set_cons_zero, List.set_cons_succ]
      refine wpAnyH_take (i := 6) (oi := { dst := some 39, op := Op.load 4 (Operand.tmp 38), type := 4, pos := "ref.go:114", after := #[{ on := 5, ground := Ground.data }], guard := none }) (v := ?v107) rfl (by kernel_rfl) (by kernel_rfl) (by kernel_rfl) (fun _ _ _ h => h) (Or.inl ⟨by rfl, ?hy107⟩) (by assumption) ?rest107
      case hy107 => (intro w hSw; (try dsimp only at hSw); go_simp; try with_reducible rfl)
      simp only [Act.put, List.setIfInBounds_toArray, List.set_cons_zero, List.set_cons_succ]
      refine wpAnyH_ready (rs := [7]) (by kernel_rfl) (by simp) (AllReadyH.cons (o := { dst := some 40, op := Op.call { callee := Callee.value (Operand.func 74), args := #[Operand.tmp 35, Operand.tmp 37, Operand.tmp 39], argTypes := #[27, 3, 4] }, type := 3, pos := "ref.go:114", after := #[{ on := 2, ground := Ground.data }, { on := 4, ground := Ground.data }, { on := 6, ground := Ground.data }], guard := none }) rfl (fun K108 hK108 => ?_) AllReadyH.nil)
      go_simp
      refine (rports_any ⟨fr, sw, ⟨a1, n1, k1⟩, ⟨a2, n2, k2⟩, ⟨a3, n3, k3⟩, ⟨some ⟨bb, off, none⟩, n4, k4⟩⟩ c xt xq _ (HS1.out _ hHx.1)).mono ?_
      rintro e u108 ⟨rfl, hb108⟩
      rw [HP2.out]
      refine hK108.out _ _ (MK.out _ (hHx.1.trans (hb108.mono hHx.1.size))) (fun hHx108 => ?_)
      clear hK108 K108
      try simp only [Act.put, List.setIfInBounds_toArray, List.set_cons_zero, List.set_cons_succ]
      refine wpAnyH_take (i := 8) (oi := { dst := some 41, op := Op.binOp BinOp.sub 3 (Operand.tmp 40) (Operand.const (Value.int IntKind.i64 1)) 3, type := 3, pos := "ref.go:114", after := #[{ on := 7, ground := Ground.data }], guard := none }) (v := ?v109) rfl (by kernel_rfl) (by kernel_rfl) (by kernel_rfl) (fun _ _ _ h => h) (Or.inl ⟨by rfl, ?hy109⟩) (by assumption) ?rest109
      case hy109 => (intro w hSw; (try dsimp only at hSw); go_simp; try with_reducible rfl)
      simp only [Act.put, List.setIfInBounds_toArray, List.set_cons_zero, List.set_cons_succ]
      refine wpAnyH_ready (rs := [9]) (by kernel_rfl) (by simp) (AllReadyH.cons (o := { dst := some 42, op := Op.call { callee := Callee.value (Operand.func 37), args := #[Operand.tmp 34, Operand.const (Value.int IntKind.i64 0), Operand.tmp 41], argTypes := #[3, 3, 3] }, type := 4, pos := "ref.go:114", after := #[{ on := 1, ground := Ground.data }, { on := 8, ground := Ground.data }, { on := 7, ground := Ground.chain }], guard := none }) rfl (fun K110 hK110 => ?_) AllReadyH.nil)
      go_simp
      refine (rin_any xb 0 ((P2 : Int) - 1) _).mono ?_
      rintro e u110 ⟨rfl, rfl⟩
      rw [Hb2.out]
      refine hK110.out _ _ (hHx108) (fun hHx110 => ?_)
      clear hK110 K110
      try simp only [Act.put, List.setIfInBounds_toArray, List.set_cons_zero, List.set_cons_succ]
      refine wpAnyH_take (i := 10) (oi := { dst := some 6, op := Op.assign (Operand.tmp 42), type := 4, pos := "ref.go:114", after := #[{ on := 9, ground := Ground.data }, { on := 9, ground := Ground.chain }, { on := 0, ground := Ground.phase }, { on := 1, ground := Ground.phase }, { on := 2, ground := Ground.phase }, { on := 3, ground := Ground.phase }, { on := 4, ground := Ground.phase }, { on := 5, ground := Ground.phase }, { on := 6, ground := Ground.phase }, { on := 7, ground := Ground.phase }, { on := 8, ground := Ground.phase }, { on := 9, ground := Ground.phase }], guard := none }) (v := ?v111) rfl (by kernel_rfl) (by kernel_rfl) (by kernel_rfl) (fun _ _ _ h => h) (Or.inl ⟨by rfl, ?hy111⟩) (by assumption) ?rest111
      case hy111 => (intro w hSw; (try dsimp only at hSw); go_simp; try with_reducible rfl)
      simp only [Act.put, List.setIfInBounds_toArray, List.set_cons_zero, List.set_cons_succ]
      refine wpAnyH_done (by kernel_rfl) ?_ _
      obtain ⟨hcur, d0, d1, d2, d3, d4, d5, x0, x1, x2, x3, x4⟩ := hHx110
      clear w1 w2
      have HE := hid (show ∀ w', Below W1.heap.size W1 w' → Below w.heap.size w w' from fun w' h => HB.out.trans ((HA.out.trans (h.mono HA.out.size)).mono HB.out.size))
      have HE0 := hid (show ∀ w', Below W1.heap.size W1 w' → Below w0.heap.size w0 w' from fun w' h => HA.out.trans (h.mono HA.out.size))
      cases b1
      · have HN := hid (HNo.out (by rw [HRC.out]; simp))
        clear HNo HGo HRC
        go_wp2
        go_ret
        exact ⟨by rw [HN.out]; rfl, HE.out _ hcur⟩
      cases b2
      · have HN := hid (HNo.out (by rw [HRC.out]; simp))
        clear HNo HGo HRC
        go_wp2
        go_ret
        exact ⟨by rw [HN.out]; rfl, HE.out _ hcur⟩
      rcases hft : (xf == xt)
      · have HFT := hid (show decide (xf ≠ xt) = true by simpa using hft)
        go_wp2_with fail
        refine (rends_any ⟨fr, sw, ⟨a1, n1, k1⟩, ⟨a2, n2, k2⟩, ⟨a3, n3, k3⟩, ⟨some ⟨bb, off, none⟩, n4, k4⟩⟩ c xq xf xa _ (HS1.out _ hcur) (by rw [← HN4.out]; omega)).mono ?_
        rintro e w7 ⟨rfl, hb7⟩
        have hc7 := hcur.trans (hb7.mono hcur.size)
        have H7 := hid (MK.out _ hc7)
        clear d0 d1 d2 d3 d4 d5 x0 x1 x2 x3 x4 hb7 hcur
        obtain ⟨hcur, d0, d1, d2, d3, d4, d5, x0, x1, x2, x3, x4⟩ := H7.out
        generalize endsN c.ch ⟨xq, xf, xa⟩ = N1 at *
        by_cases hn1 : (1 : Int) < (N1 : Int)
        · have HN := hid (HNo.out (by rw [HRC.out, show decide (N1 ≤ 1) = false from decide_eq_false (by omega)]; simp))
          clear HNo HGo HRC
          go_wp2
          go_ret
          exact ⟨by rw [HN.out]; rfl, HE.out _ hcur⟩
        have HN1 := hid (show decide (N1 ≤ 1) = true from decide_eq_true (by omega))
        go_wp2_with fail
        refine (rends_any ⟨fr, sw, ⟨a1, n1, k1⟩, ⟨a2, n2, k2⟩, ⟨a3, n3, k3⟩, ⟨some ⟨bb, off, none⟩, n4, k4⟩⟩ c xq xt xb _ (HS1.out _ hcur) (by rw [← HN4.out]; omega)).mono ?_
        rintro e w8 ⟨rfl, hb8⟩
        have hc8 := hcur.trans (hb8.mono hcur.size)
        clear d0 d1 d2 d3 d4 d5 x0 x1 x2 x3 x4 hb8 hcur
        generalize endsN c.ch ⟨xq, xt, xb⟩ = N2 at *
        by_cases hn2 : (1 : Int) < (N2 : Int)
        · have HN := hid (HNo.out (by rw [HRC.out, show decide (N2 ≤ 1) = false from decide_eq_false (by omega)]; simp))
          clear HNo HGo HRC
          go_wp2
          go_ret
          exact ⟨by rw [HN.out]; rfl, HE.out _ hc8⟩
        have HN := hid (HGo.out (by rw [HRC.out, HN1.out, HFT.out, show decide (N2 ≤ 1) = true from decide_eq_true (by omega)]; rfl))
        clear HNo HGo HRC HFT
        go_wp2
        go_roundw
        case rel => exact ⟨i + 1, by omega, by go_num, HN.out, HE0.out _ hc8⟩
        case measure => simp [intOf]; omega
      · have HN := hid (HNo.out (by rw [HRC.out, show decide (xf ≠ xt) = false by simpa using hft]; simp))
        clear HNo HGo HRC
        go_wp2
        go_ret
        exact ⟨by rw [HN.out]; rfl, HE.out _ hcur⟩
    · have HE := hid (show R = true by rw [← HR.out, HI.out, allN_yes _ _ (fun j hj => HG.out j (by rw [← HN4.out] at hj; omega))]; rfl)
      clear HG HC
      go_wp2
      go_ret
      exact ⟨by rw [HE.out]; rfl, HB.out.trans (hbel.mono HB.out.size)⟩

end Go.Proofs.Ytfdoejdnhogepaa
