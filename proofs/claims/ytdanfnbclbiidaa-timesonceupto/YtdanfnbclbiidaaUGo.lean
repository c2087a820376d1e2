/-
  What a partition in a box becomes when times lets a process go on.
-/
import Derived.Test.YtdanfnbclbiidaaURel
import Derived.Test.YtdanfnbclbiidaaQRef2
import Derived.Test.YtdanfnbclbiidaaUIter
import Derived.Deep.RegionHeld3
namespace Go.Proofs.Ytdanfnbclbiidaa
open Go.RowKit
set_option linter.unusedVariables false

theorem SeesPx.one {w : World} {b o n : Nat} {r : Px} (hn : 1 ≤ n) (hm : n ≤ 9223372036854775807) (h : PxAt w b o r) : SeesPx w (.slice (some ⟨b, o, none⟩) 1 n) [r] := by
  refine .inr ⟨⟨b, o, none⟩, n, rfl, hn, hm, fun i hi j hj => ?_⟩
  have hi0 : i = 0 := by simp at hi; omega
  subst hi0
  have := h j hj
  rw [add_none]
  simpa [List.getD] using this
/-- The whole process is stored into its row. -/
theorem wp_stores_pw {o : Oper} {a : Act} {w : World} {K : Act → World → Prop} {Q : Exit → Act → World → Prop} (x y : Operand) (ho : o.op = .store 57 x y)
    {base g cap i : Nat} {L : List Px} {r : Px} (hp : PW w base g cap i L r) (hx : a.eval x = .pointer (some ⟨g, i * 18, none⟩)) (r' : Px) (hy : a.eval y = r'.val)
    (h : ∀ w', PW w' base g cap i L r' → w.grownBy w' (some g) → w'.heap.size = w.heap.size → K (a.put o.dst undef) w') : Oper.wp Try.prog o a w K Q := by
  refine wp_store_mid 57 x y ho g (i * 18) r'.cells.toArray hx hy ?_ (by rw [Try.infoPx]; rfl) (by unfold Px.cells; simp [Value.oneCell']) ?_
  · have := row_there (c := 18) i (px_lens (L.set i r)) (by simpa using hp.lt) hp.op
    exact this
  · exact h _ (hp.sets r') (grown_sets g _ _ _) (size_sets g _ _ _)
/-- One process alone goes on. -/
theorem go_alone (r : Px) (nx code : Int) : goP { Pa.zero with pr := [r], nx := nx } 0 code 0 = { Pa.zero with pr := [(goD code 0 r).out nx], nx := (goD code 0 r).nxt nx } := by
  unfold goP deedP
  rw [if_pos ⟨Int.le_refl _, by simp⟩]
  rfl
theorem cell_grown {w w' : World} {b : Nat} (h : w.grownBy w' (some b)) {p : Addr} (hb : some b ≠ some p.block) (hp : p.block < w.heap.size) : w'.cell? p = w.cell? p := by
  have e := h.block p.block hp (fun e => hb e.symm)
  unfold World.cell?
  rw [e]
theorem go_in {c : Pa} {k : Nat} (hk : k < c.pr.length) (code : Int) : goP c (k : Int) code 0 = { c with pr := c.pr.set k ((goD code 0 (c.pr.getD k Px.zero)).out c.nx), nx := (goD code 0 (c.pr.getD k Px.zero)).nxt c.nx } := by
  unfold goP
  rw [deed_in hk]

set_option maxRecDepth 100000 in
set_option maxHeartbeats 3200000 in
theorem goon_core {w : World} {base P n g cap N : Nat} {q : PaV} {L : List Px} {nx m : Int} {r y : Px} (k : Nat) (code : Int) (hq : BoxAt w P 39 q.cells.toArray) (hop : OP w base (.slice (some ⟨g, 0, none⟩) L.length cap) L)
    (hL : L.length = N) (hs : q.pr = ⟨some ⟨g, 0, none⟩, N, cap⟩) (hnx : q.nx = nx) (hr : L.getD k Px.zero = r) (hy : (goD code 0 r).out nx = y) (hm : (goD code 0 r).nxt nx = m)
    (hk : k < N) (hN9 : N ≤ 900000) (hb : base ≤ w.heap.size) (hn : n ≤ P) (hnb : n ≤ base) :
    Calls Try.prog 32 #[.pointer (some ⟨P, 0, none⟩), .int .i64 (k : Nat), .int .i64 code] w fun e w' => e = .returned (.tuple #[]) ∧
      BoxAt w' P 39 (PaV.cells { q with nx := m }).toArray ∧ OP w' base (.slice (some ⟨g, 0, none⟩) L.length cap) (L.set k y) ∧ TwoT g P w w' ∧ Below n w w' := by
  have hcap : L.length ≤ cap ∧ cap ≤ 9223372036854775807 := by
    obtain ⟨g', cap', e, _, _, h1, h2⟩ := OP.form hop (by omega)
    simp only [Value.slice.injEq] at e
    omega
  have HP := hid (PW.start hop (show k < L.length by omega))
  have HX := hid (OP.at hop k (by omega))
  rw [hr] at HP HX
  have hgb : base ≤ g ∧ g < w.heap.size := by obtain ⟨_, _, h1, h2⟩ := HP.out.box; exact ⟨h1, h2⟩
  have hPs : P < w.heap.size := hq.lt
  have hnp : P ≠ g := by
    obtain ⟨cs, b0, _, _⟩ := HP.out.box
    exact box_ne hq b0 (by decide)
  have HSl := hid hs
  have HNx := hid hnx
  have HG := hid (show goP { Pa.zero with pr := [r], nx := nx } 0 code 0 = { Pa.zero with pr := [y], nx := m } from by rw [go_alone, hy, hm])
  have k2 : w.drew.cell? ⟨P, 2, none⟩ = some (.int .i64 nx) := (BoxAt.cell hq 2).trans (by show some (Value.int .i64 q.nx) = _; rw [HNx.out])
  have k4 : w.drew.cell? ⟨P, 4, none⟩ = some (.slice (some ⟨g, 0, none⟩) N cap) := (BoxAt.cell hq 4).trans (by show some q.pr.val = _; rw [HSl.out]; rfl)
  have PB := hid hq
  have HLN := hid hL
  rw [hL] at hcap
  have HW := hid ((Below.refl w.heap.size w).drew)
  have HB := hid ((Below.refl n w).drew)
  have PB := hid (BoxAt.drew PB.out)
  have HP := hid (HP.out.below ((Below.refl w.heap.size w).drew))
  have HX := hid (HX.out.below ((Below.refl w.heap.size w).drew) hgb.2)
  have hds : w.drew.heap.size = w.heap.size := rfl
  clear hq hs hop hr hnx hy hm hL
  go_enter Try.func32, Try.ntmps32
  go_wp2_with fail
  have hwk : IntKind.i64.wrap ((k : Int) + 1) = (k : Int) + 1 := by rw [IntKind.wrap_i64]; omega
  have hwn : ((k : Int) + 1).toNat = k + 1 := by omega
  have hwp : (0 : Int) ≤ (k : Int) + 1 ∧ (k : Int) + 1 ≤ (cap : Int) := by omega
  have hwq : k ≤ k + 1 := by omega
  have hck : ¬ cap = k := by omega
  have hn1 : k + 1 - k = 1 := by omega
  have hkn : (k : Int) + 1 ≤ (N : Int) := by omega
  have hkc : (k : Int) + 1 ≤ (cap : Int) := by omega
  have hk0 : (0 : Int) ≤ (k : Int) := by omega
  refine wp_region_held_drew (S := (fun W => W.cell? ⟨P, 2, none⟩ = some (.int .i64 nx) ∧ W.cell? ⟨P, 4, none⟩ = some (.slice (some ⟨g, 0, none⟩) N cap))) (by kernel_rfl) (⟨k2, k4⟩) (fun hHeld => ?_)
  refine wpAnyH_take (i := 0) (oi := { dst := some 7, op := Op.move (Operand.tmp 0), type := 86, pos := "times.go:108", after := #[], guard := none }) (v := ?v1) rfl (by kernel_rfl) (by kernel_rfl) (by kernel_rfl) (fun _ _ _ h => h) (Or.inl ⟨by rfl, ?hy1⟩) (by assumption) ?rest1
  case hy1 => (intro w hSw; (try dsimp only at hSw); go_simp; try with_reducible rfl)
  simp only [Act.put, List.setIfInBounds_toArray, List.set_cons_zero, List.set_cons_succ]
  refine wpAnyH_take (i := 1) (oi := { dst := some 8, op := Op.nilCheck (Operand.tmp 7), type := 0, pos := "times.go:108", after := #[{ on := 0, ground := Ground.data }], guard := none }) (v := ?v2) rfl (by kernel_rfl) (by kernel_rfl) (by kernel_rfl) (fun _ _ _ h => h) (Or.inl ⟨by rfl, ?hy2⟩) (by assumption) ?rest2
  case hy2 => (intro w hSw; (try dsimp only at hSw); go_simp; try with_reducible rfl)
  simp only [Act.put, List.setIfInBounds_toArray, List.set_cons_zero, List.set_cons_succ]
  refine wpAnyH_take (i := 2) (oi := { dst := some 9, op := Op.fieldAddr 39 (Operand.tmp 8) 2, type := 0, pos := "times.go:108", after := #[{ on := 1, ground := Ground.data }], guard := none }) (v := ?v3) rfl (by kernel_rfl) (by kernel_rfl) (by kernel_rfl) (fun _ _ _ h => h) (Or.inl ⟨by rfl, ?hy3⟩) (by assumption) ?rest3
  case hy3 => (intro w hSw; (try dsimp only at hSw); go_simp; try with_reducible rfl)
  simp only [Act.put, List.setIfInBounds_toArray, List.set_cons_zero, List.set_cons_succ]
  refine wpAnyH_take (i := 3) (oi := { dst := some 10, op := Op.load 3 (Operand.tmp 9), type := 3, pos := "times.go:108", after := #[{ on := 2, ground := Ground.data }], guard := none }) (v := ?v4) rfl (by kernel_rfl) (by kernel_rfl) (by kernel_rfl) (fun _ _ _ h => h) (Or.inl ⟨by rfl, ?hy4⟩) (by assumption) ?rest4
  case hy4 => (intro W hSw; obtain ⟨s1, s2⟩ := hSw; go_simp; try with_reducible rfl)
  simp only [Act.put, List.setIfInBounds_toArray, List.set_cons_zero, List.set_cons_succ]
  refine wpAnyH_take (i := 4) (oi := { dst := some 11, op := Op.move (Operand.tmp 0), type := 86, pos := "times.go:108", after := #[], guard := none }) (v := ?v5) rfl (by kernel_rfl) (by kernel_rfl) (by kernel_rfl) (fun _ _ _ h => h) (Or.inl ⟨by rfl, ?hy5⟩) (by assumption) ?rest5
  case hy5 => (intro w hSw; (try dsimp only at hSw); go_simp; try with_reducible rfl)
  simp only [Act.put, List.setIfInBounds_toArray, List.set_cons_zero, List.set_cons_succ]
  refine wpAnyH_take (i := 5) (oi := { dst := some 12, op := Op.nilCheck (Operand.tmp 11), type := 0, pos := "times.go:108", after := #[{ on := 4, ground := Ground.data }], guard := none }) (v := ?v6) rfl (by kernel_rfl) (by kernel_rfl) (by kernel_rfl) (fun _ _ _ h => h) (Or.inl ⟨by rfl, ?hy6⟩) (by assumption) ?rest6
  case hy6 => (intro w hSw; (try dsimp only at hSw); go_simp; try with_reducible rfl)
  simp only [Act.put, List.setIfInBounds_toArray, List.set_cons_zero, List.set_cons_succ]
  refine wpAnyH_take (i := 6) (oi := { dst := some 13, op := Op.fieldAddr 39 (Operand.tmp 12) 4, type := 0, pos := "times.go:108", after := #[{ on := 5, ground := Ground.data }], guard := none }) (v := ?v7) rfl (by kernel_rfl) (by kernel_rfl) (by kernel_rfl) (fun _ _ _ h => h) (Or.inl ⟨by rfl, ?hy7⟩) (by assumption) ?rest7
  case hy7 => (intro w hSw; (try dsimp only at hSw); go_simp; try with_reducible rfl)
  simp only [Act.put, List.setIfInBounds_toArray, List.set_cons_zero, List.set_cons_succ]
  refine wpAnyH_take (i := 7) (oi := { dst := some 14, op := Op.load 29 (Operand.tmp 13), type := 29, pos := "times.go:108", after := #[{ on := 6, ground := Ground.data }], guard := none }) (v := ?v8) rfl (by kernel_rfl) (by kernel_rfl) (by kernel_rfl) (fun _ _ _ h => h) (Or.inl ⟨by rfl, ?hy8⟩) (by assumption) ?rest8
  case hy8 => (intro W hSw; obtain ⟨s1, s2⟩ := hSw; go_simp; try with_reducible rfl)
  simp only [Act.put, List.setIfInBounds_toArray, List.set_cons_zero, List.set_cons_succ]
  refine wpAnyH_take (i := 8) (oi := { dst := some 15, op := Op.move (Operand.tmp 1), type := 3, pos := "times.go:108", after := #[], guard := none }) (v := ?v9) rfl (by kernel_rfl) (by kernel_rfl) (by kernel_rfl) (fun _ _ _ h => h) (Or.inl ⟨by rfl, ?hy9⟩) (by assumption) ?rest9
  case hy9 => (intro w hSw; (try dsimp only at hSw); go_simp; try with_reducible rfl)
  simp only [Act.put, List.setIfInBounds_toArray, List.set_cons_zero, List.set_cons_succ]
  refine wpAnyH_take (i := 9) (oi := { dst := some 16, op := Op.move (Operand.tmp 1), type := 3, pos := "times.go:108", after := #[], guard := none }) (v := ?v10) rfl (by kernel_rfl) (by kernel_rfl) (by kernel_rfl) (fun _ _ _ h => h) (Or.inl ⟨by rfl, ?hy10⟩) (by assumption) ?rest10
  case hy10 => (intro w hSw; (try dsimp only at hSw); go_simp; try with_reducible rfl)
  simp only [Act.put, List.setIfInBounds_toArray, List.set_cons_zero, List.set_cons_succ]
  refine wpAnyH_take (i := 10) (oi := { dst := some 17, op := Op.binOp BinOp.add 3 (Operand.tmp 16) (Operand.const (Value.int IntKind.i64 1)) 3, type := 3, pos := "times.go:108", after := #[{ on := 9, ground := Ground.data }], guard := none }) (v := ?v11) rfl (by kernel_rfl) (by kernel_rfl) (by kernel_rfl) (fun _ _ _ h => h) (Or.inl ⟨by rfl, ?hy11⟩) (by assumption) ?rest11
  case hy11 => (intro w hSw; (try dsimp only at hSw); go_simp; try with_reducible rfl)
  simp only [Act.put, List.setIfInBounds_toArray, List.set_cons_zero, List.set_cons_succ]
  refine wpAnyH_take (i := 11) (oi := { dst := some 18, op := Op.slice 29 (Operand.tmp 14) (some (Operand.tmp 15)) (some (Operand.tmp 17)) none, type := 29, pos := "times.go:108", after := #[{ on := 7, ground := Ground.data }, { on := 8, ground := Ground.data }, { on := 10, ground := Ground.data }], guard := none }) (v := ?v12) rfl (by kernel_rfl) (by kernel_rfl) (by kernel_rfl) (fun _ _ _ h => h) (Or.inl ⟨by rfl, ?hy12⟩) (by assumption) ?rest12
  case hy12 => (intro w hSw; (try dsimp only at hSw); go_simp; try with_reducible rfl)
  simp only [Act.put, List.setIfInBounds_toArray, List.set_cons_zero, List.set_cons_succ]
  refine wpAnyH_take (i := 12) (oi := { dst := some 19, op := Op.build 39 #[(2, Operand.tmp 10), (4, Operand.tmp 18)], type := 39, pos := "times.go:108", after := #[{ on := 3, ground := Ground.data }, { on := 11, ground := Ground.data }], guard := none }) (v := ?v13) rfl (by kernel_rfl) (by kernel_rfl) (by kernel_rfl) (fun _ _ _ h => h) (Or.inl ⟨by rfl, ?hy13⟩) (by assumption) ?rest13
  case hy13 => (intro w hSw; (try dsimp only at hSw); go_simp; try with_reducible rfl)
  simp only [Act.put, List.setIfInBounds_toArray, List.set_cons_zero, List.set_cons_succ]
  refine wpAnyH_ready (rs := [13]) (by kernel_rfl) (by simp) (AllReadyH.cons (o := { dst := some 6, op := Op.alloc 39, type := 0, pos := "times.go:108", after := #[], guard := none }) rfl (fun K14 hK14 => ?_) AllReadyH.nil)
  refine wp_new 39 rfl _ Try.zeroPa ?_
  intro v1 b hb1 z
  have AB := hid (show BoxAt v1 w.drew.heap.size 39 (PaV.cells PaV.zero).toArray from b)
  have PB := hid (PB.out.belowAll hb1)
  have HP := hid (HP.out.below hb1)
  have HX := hid (HX.out.below hb1 hgb.2)
  have HW := hid (HW.out.trans hb1)
  have HB := hid (HB.out.trans (hb1.mono (by omega)))
  have hs1 : w.heap.size + 1 ≤ v1.heap.size := by omega
  clear b hb1 z
  refine hK14.out _ _ (⟨(BoxAt.cell PB.out 2).trans (by show some (Value.int .i64 q.nx) = _; rw [HNx.out]), (BoxAt.cell PB.out 4).trans (by show some q.pr.val = _; rw [HSl.out]; rfl)⟩) (fun hHeld14 => ?_)
  clear hK14 K14
  try simp only [Act.put, List.setIfInBounds_toArray, List.set_cons_zero, List.set_cons_succ]
  refine wpAnyH_ready (rs := [14]) (by kernel_rfl) (by simp) (AllReadyH.cons (o := { dst := none, op := Op.store 39 (Operand.tmp 6) (Operand.tmp 19), type := 0, pos := "times.go:108", after := #[{ on := 13, ground := Ground.data }, { on := 12, ground := Ground.data }, { on := 0, ground := Ground.phase }, { on := 1, ground := Ground.phase }, { on := 2, ground := Ground.phase }, { on := 3, ground := Ground.phase }, { on := 4, ground := Ground.phase }, { on := 5, ground := Ground.phase }, { on := 6, ground := Ground.phase }, { on := 7, ground := Ground.phase }, { on := 8, ground := Ground.phase }, { on := 9, ground := Ground.phase }, { on := 10, ground := Ground.phase }, { on := 11, ground := Ground.phase }, { on := 12, ground := Ground.phase }, { on := 13, ground := Ground.phase }], guard := none }) rfl (fun K15 hK15 => ?_) AllReadyH.nil)
  obtain ⟨qa, hqa⟩ : ∃ qa : PaV, { PaV.zero with nx := nx, pr := ⟨some ⟨g, k * 18, none⟩, 1, cap - k⟩ } = qa := ⟨_, rfl⟩
  have HQa := hid hqa
  clear hqa
  refine wp_store_whole 39 _ _ rfl w.drew.heap.size rfl (PaV.cells qa) (by rw [← HQa.out]; rfl) _ _ AB.out rfl Try.infoPa (PaV.one _) ?_
  intro v2 b g2 z
  have hb2 : Below w.heap.size v1 v2 := grown_below g2 (Nat.le_refl _) (by omega)
  have HW := hid (HW.out.trans hb2)
  have HB := hid (HB.out.trans (hb2.mono (by omega)))
  have HP := hid (HP.out.grown g2 (by omega))
  have HX := hid (HX.out.below hb2 hgb.2)
  have PB := hid (PB.out.grown g2 (fun e => by have := Option.some.inj e; omega))
  have AB := hid (show BoxAt v2 w.drew.heap.size 39 (PaV.cells qa).toArray from b)
  have hs2 : w.heap.size + 1 ≤ v2.heap.size := by omega
  clear b g2 z hb2
  refine hK15.out _ _ (⟨(BoxAt.cell PB.out 2).trans (by show some (Value.int .i64 q.nx) = _; rw [HNx.out]), (BoxAt.cell PB.out 4).trans (by show some q.pr.val = _; rw [HSl.out]; rfl)⟩) (fun hHeld15 => ?_)
  clear hK15 K15
  try simp only [Act.put]
  refine wpAnyH_done (by kernel_rfl) ?_ _
  clear hHeld hHeld14 hHeld15
  clear hds k2 k4 hwk hwn hwp hwq hck hn1 hkn hkc hk0
  have AB := hid (show BoxAt v2 w.heap.size 39 (PaV.cells qa).toArray from AB.out)
  go_wp2_with (first
    | (refine wpList_load_box rfl 39 _ rfl w.heap.size rfl _ _ AB.out _ Try.underlying39 Try.infoPa ?_)
    | fail)
  have HPa := hid (show PaAt v2 qa { Pa.zero with pr := [r], nx := nx } from by
    rw [← HQa.out]
    exact ⟨rfl, rfl, rfl, Sees.nil _ _, SeesPx.one (show 1 ≤ cap - k by omega) (show cap - k ≤ 9223372036854775807 by omega) HX.out, LBd.nil _, LBf.nil _, LSe.nil _, LEv.nil _, SeesSp.nil _, LQu.nil _, rfl, Sees.nil _ _, rfl, Sees.nil _ _⟩)
  refine (go_api (k := ⟨0, code, 0⟩) HPa.out ⟨by simp [Pa.zero], by simp, by simp [Pa.zero], by simp [Pa.zero], by simp [Pa.zero], by simp [Pa.zero], by simp [Pa.zero], by simp [Pa.zero], by simp [Pa.zero], by simp [Pa.zero], fun x hx => by simp [Pa.zero] at hx, fun x hx => by simp [Pa.zero] at hx, fun x hx => by simp [Pa.zero] at hx, fun x hx => by simp [Pa.zero] at hx, fun x hx => by simp [Pa.zero] at hx⟩).mono ?_
  rintro e v3 ⟨q2, rfl, ho, hb⟩
  rw [HG.out] at ho
  obtain ⟨g2, cap2, hv2, hg2, hg3, hc1, hc2⟩ := OP.form ho.pr (by simp)
  have hop2 := ho.pr
  rw [hv2] at hop2
  have HY2 := hid (OP.at (show OP v3 v2.heap.size (.slice (some ⟨g2, 0, none⟩) [y].length cap2) [y] from hop2) 0 (by simp))
  have HM2 := hid ho.nx
  have HV2 := hid hv2
  have HW := hid (HW.out.trans (hb.mono (by omega)))
  have HB := hid (HB.out.trans (hb.mono (by omega)))
  have HP := hid (HP.out.below hb)
  have PB := hid (PB.out.belowAll hb)
  have AB := hid (AB.out.belowAll hb)
  have hs3 : v2.heap.size ≤ v3.heap.size := hb.size
  clear ho hv2 hop2 hb HPa HX HG HQa
  have hag : w.heap.size ≠ g := by omega
  have hap : w.heap.size ≠ P := by omega
  have hg2w : w.heap.size < g2 := by omega
  have hg2g : g2 ≠ g := by omega
  have hg2p : g2 ≠ P := by omega
  have hag2 : w.heap.size ≠ g2 := by omega
  go_wp2_with (first
    | (refine wpList_store_whole rfl 39 _ _ rfl rfl w.heap.size rfl (PaV.cells q2) rfl _ _ AB.out rfl Try.infoPa (PaV.one _) ?_
       intro v4 b gr z
       have hb4 : Below n v3 v4 := grown_below gr (by omega) (by omega)
       have HW := hid (HW.out.trans (grown_below gr (Nat.le_refl _) (by omega)))
       have HB := hid (HB.out.trans hb4)
       have HP := hid (HP.out.grown gr hag)
       have PB := hid (PB.out.grown gr (fun e => hap (Option.some.inj e).symm))
       have HY2 := hid (show PxAt v4 g2 0 y from fun j hj => (cell_grown gr (fun e => hag2 (Option.some.inj e)) (p := ⟨g2, 0 + j, none⟩) hg3).trans (HY2.out j hj))
       have AB := hid (show BoxAt v4 w.heap.size 39 (PaV.cells q2).toArray from b)
       have hs4 : v3.heap.size ≤ v4.heap.size := by omega
       clear b gr z hb4)
    | fail)
  have k4 : v4.drew.cell? ⟨P, 4, none⟩ = some (.slice (some ⟨g, 0, none⟩) N cap) := (BoxAt.cell PB.out 4).trans (by show some q.pr.val = _; rw [HSl.out]; rfl)
  have a4 : v4.drew.cell? ⟨w.heap.size, 4, none⟩ = some (.slice (some ⟨g2, 0, none⟩) 1 cap2) := (BoxAt.cell AB.out 4).trans (by show some q2.pr.val = _; rw [HV2.out]; rfl)
  have a2 : v4.drew.cell? ⟨w.heap.size, 2, none⟩ = some (.int .i64 m) := (BoxAt.cell AB.out 2).trans (by show some (Value.int .i64 q2.nx) = _; rw [HM2.out])
  have a9 : PxAt v4.drew g2 0 y := HY2.out.below ((Below.refl v4.heap.size v4).drew) (by omega)
  have HT := hid (TwoT.below (g := g) (P := P) HW.out.drew)
  have HB := hid HB.out.drew
  have HP := hid (HP.out.below ((Below.refl v4.heap.size v4).drew))
  have PB := hid (BoxAt.drew PB.out)
  have AB := hid (BoxAt.drew AB.out)
  have HY2 := hid a9
  have hg4 : g2 < v4.drew.heap.size := by show g2 < v4.heap.size; omega
  have hkn : (k : Int) < (N : Int) := by omega
  have hc0 : (0 : Int) < (1 : Int) := by omega
  refine wp_region_held_drew (S := (fun W => W.cell? ⟨P, 4, none⟩ = some (.slice (some ⟨g, 0, none⟩) N cap) ∧ W.cell? ⟨w.heap.size, 4, none⟩ = some (.slice (some ⟨g2, 0, none⟩) 1 cap2) ∧ W.cell? ⟨w.heap.size, 2, none⟩ = some (.int .i64 m) ∧ PxAt W g2 0 y)) (by kernel_rfl) (⟨k4, a4, a2, a9⟩) (fun hHeld => ?_)
  refine wpAnyH_take (i := 0) (oi := { dst := some 24, op := Op.move (Operand.tmp 0), type := 86, pos := "times.go:110", after := #[], guard := none }) (v := ?v101) rfl (by kernel_rfl) (by kernel_rfl) (by kernel_rfl) (fun _ _ _ h => h) (Or.inl ⟨by rfl, ?hy101⟩) (by assumption) ?rest101
  case hy101 => (intro w hSw; (try dsimp only at hSw); go_simp; try with_reducible rfl)
  simp only [Act.put, List.setIfInBounds_toArray, List.set_cons_zero, List.set_cons_succ]
  refine wpAnyH_take (i := 1) (oi := { dst := some 25, op := Op.nilCheck (Operand.tmp 24), type := 0, pos := "times.go:110", after := #[{ on := 0, ground := Ground.data }], guard := none }) (v := ?v102) rfl (by kernel_rfl) (by kernel_rfl) (by kernel_rfl) (fun _ _ _ h => h) (Or.inl ⟨by rfl, ?hy102⟩) (by assumption) ?rest102
  case hy102 => (intro w hSw; (try dsimp only at hSw); go_simp; try with_reducible rfl)
  simp only [Act.put, List.setIfInBounds_toArray, List.set_cons_zero, List.set_cons_succ]
  refine wpAnyH_take (i := 2) (oi := { dst := some 26, op := Op.fieldAddr 39 (Operand.tmp 25) 4, type := 0, pos := "times.go:110", after := #[{ on := 1, ground := Ground.data }], guard := none }) (v := ?v103) rfl (by kernel_rfl) (by kernel_rfl) (by kernel_rfl) (fun _ _ _ h => h) (Or.inl ⟨by rfl, ?hy103⟩) (by assumption) ?rest103
  case hy103 => (intro w hSw; (try dsimp only at hSw); go_simp; try with_reducible rfl)
  simp only [Act.put, List.setIfInBounds_toArray, List.set_cons_zero, List.set_cons_succ]
  refine wpAnyH_take (i := 3) (oi := { dst := some 27, op := Op.load 29 (Operand.tmp 26), type := 29, pos := "times.go:110", after := #[{ on := 2, ground := Ground.data }], guard := none }) (v := ?v104) rfl (by kernel_rfl) (by kernel_rfl) (by kernel_rfl) (fun _ _ _ h => h) (Or.inl ⟨by rfl, ?hy104⟩) (by assumption) ?rest104
  case hy104 => (intro w hSw; obtain ⟨s1, s2, s3, s4⟩ := hSw; go_simp; try with_reducible rfl)
  simp only [Act.put, List.setIfInBounds_toArray, List.set_cons_zero, List.set_cons_succ]
  refine wpAnyH_take (i := 4) (oi := { dst := some 28, op := Op.move (Operand.tmp 1), type := 3, pos := "times.go:110", after := #[], guard := none }) (v := ?v105) rfl (by kernel_rfl) (by kernel_rfl) (by kernel_rfl) (fun _ _ _ h => h) (Or.inl ⟨by rfl, ?hy105⟩) (by assumption) ?rest105
  case hy105 => (intro w hSw; (try dsimp only at hSw); go_simp; try with_reducible rfl)
  simp only [Act.put, List.setIfInBounds_toArray, List.set_cons_zero, List.set_cons_succ]
  refine wpAnyH_take (i := 5) (oi := { dst := some 29, op := Op.move (Operand.tmp 0), type := 86, pos := "times.go:110", after := #[{ on := 13, ground := Ground.gcOnly Departure.lateStores }], guard := none }) (v := ?v106) rfl (by kernel_rfl) (by kernel_rfl) (by kernel_rfl) (fun _ _ _ h => h) (Or.inl ⟨by rfl, ?hy106⟩) (by assumption) ?rest106
  case hy106 => (intro w hSw; (try dsimp only at hSw); go_simp; try with_reducible rfl)
  simp only [Act.put, List.setIfInBounds_toArray, List.set_cons_zero, List.set_cons_succ]
  refine wpAnyH_take (i := 6) (oi := { dst := some 30, op := Op.fieldAddr 39 (Operand.tmp 6) 4, type := 0, pos := "times.go:110", after := #[], guard := none }) (v := ?v107) rfl (by kernel_rfl) (by kernel_rfl) (by kernel_rfl) (fun _ _ _ h => h) (Or.inl ⟨by rfl, ?hy107⟩) (by assumption) ?rest107
  case hy107 => (intro w hSw; (try dsimp only at hSw); go_simp; try with_reducible rfl)
  simp only [Act.put, List.setIfInBounds_toArray, List.set_cons_zero, List.set_cons_succ]
  refine wpAnyH_take (i := 7) (oi := { dst := some 31, op := Op.load 29 (Operand.tmp 30), type := 29, pos := "times.go:110", after := #[{ on := 6, ground := Ground.data }], guard := none }) (v := ?v108) rfl (by kernel_rfl) (by kernel_rfl) (by kernel_rfl) (fun _ _ _ h => h) (Or.inl ⟨by rfl, ?hy108⟩) (by assumption) ?rest108
  case hy108 => (intro w hSw; obtain ⟨s1, s2, s3, s4⟩ := hSw; go_simp; try with_reducible rfl)
  simp only [Act.put, List.setIfInBounds_toArray, List.set_cons_zero, List.set_cons_succ]
  refine wpAnyH_take (i := 8) (oi := { dst := some 32, op := Op.indexAddr 29 (Operand.tmp 31) (Operand.const (Value.int IntKind.i64 0)), type := 0, pos := "times.go:110", after := #[{ on := 7, ground := Ground.data }], guard := none }) (v := ?v109) rfl (by kernel_rfl) (by kernel_rfl) (by kernel_rfl) (fun _ _ _ h => h) (Or.inl ⟨by rfl, ?hy109⟩) (by assumption) ?rest109
  case hy109 => (intro w hSw; (try dsimp only at hSw); go_simp; try with_reducible rfl)
  simp only [Act.put, List.setIfInBounds_toArray, List.set_cons_zero, List.set_cons_succ]
  refine wpAnyH_take (i := 9) (oi := { dst := some 33, op := Op.load 57 (Operand.tmp 32), type := 57, pos := "times.go:110", after := #[{ on := 8, ground := Ground.data }], guard := none }) (v := ?v110) rfl (by kernel_rfl) (by kernel_rfl) (by kernel_rfl) (fun _ _ _ h => h) (Or.inl ⟨by rfl, ?hy110⟩) (by assumption) ?rest110
  case hy110 => (intro w hSw; refine px_yields (.tmp 32) ?_ g2 0 ?_ y hSw.2.2.2 <;> rfl)
  simp only [Act.put, List.setIfInBounds_toArray, List.set_cons_zero, List.set_cons_succ]
  refine wpAnyH_take (i := 10) (oi := { dst := some 34, op := Op.fieldAddr 39 (Operand.tmp 6) 2, type := 0, pos := "times.go:110", after := #[{ on := 13, ground := Ground.gcOnly Departure.lateStores }], guard := none }) (v := ?v111) rfl (by kernel_rfl) (by kernel_rfl) (by kernel_rfl) (fun _ _ _ h => h) (Or.inl ⟨by rfl, ?hy111⟩) (by assumption) ?rest111
  case hy111 => (intro w hSw; (try dsimp only at hSw); go_simp; try with_reducible rfl)
  simp only [Act.put, List.setIfInBounds_toArray, List.set_cons_zero, List.set_cons_succ]
  refine wpAnyH_take (i := 11) (oi := { dst := some 35, op := Op.load 3 (Operand.tmp 34), type := 3, pos := "times.go:110", after := #[{ on := 10, ground := Ground.data }, { on := 13, ground := Ground.gcOnly Departure.lateStores }], guard := none }) (v := ?v112) rfl (by kernel_rfl) (by kernel_rfl) (by kernel_rfl) (fun _ _ _ h => h) (Or.inl ⟨by rfl, ?hy112⟩) (by assumption) ?rest112
  case hy112 => (intro w hSw; obtain ⟨s1, s2, s3, s4⟩ := hSw; go_simp; try with_reducible rfl)
  simp only [Act.put, List.setIfInBounds_toArray, List.set_cons_zero, List.set_cons_succ]
  refine wpAnyH_take (i := 12) (oi := { dst := some 36, op := Op.indexAddr 29 (Operand.tmp 27) (Operand.tmp 28), type := 0, pos := "times.go:110", after := #[{ on := 3, ground := Ground.data }, { on := 4, ground := Ground.data }, { on := 0, ground := Ground.phase }, { on := 1, ground := Ground.phase }, { on := 2, ground := Ground.phase }, { on := 3, ground := Ground.phase }, { on := 4, ground := Ground.phase }, { on := 5, ground := Ground.textOnly Departure.lateStores }, { on := 6, ground := Ground.phase }, { on := 7, ground := Ground.phase }, { on := 8, ground := Ground.phase }, { on := 9, ground := Ground.phase }, { on := 10, ground := Ground.textOnly Departure.lateStores }, { on := 11, ground := Ground.textOnly Departure.lateStores }], guard := none }) (v := ?v113) rfl (by kernel_rfl) (by kernel_rfl) (by kernel_rfl) (fun _ _ _ h => h) (Or.inl ⟨by rfl, ?hy113⟩) (by assumption) ?rest113
  case hy113 => (intro w hSw; (try dsimp only at hSw); go_simp; try with_reducible rfl)
  simp only [Act.put, List.setIfInBounds_toArray, List.set_cons_zero, List.set_cons_succ]
  refine wpAnyH_ready (rs := [13]) (by kernel_rfl) (by simp) (AllReadyH.cons (o := { dst := none, op := Op.store 57 (Operand.tmp 36) (Operand.tmp 33), type := 0, pos := "times.go:110", after := #[{ on := 12, ground := Ground.data }, { on := 9, ground := Ground.data }, { on := 0, ground := Ground.phase }, { on := 1, ground := Ground.phase }, { on := 2, ground := Ground.phase }, { on := 3, ground := Ground.phase }, { on := 4, ground := Ground.phase }, { on := 5, ground := Ground.textOnly Departure.lateStores }, { on := 6, ground := Ground.phase }, { on := 7, ground := Ground.phase }, { on := 8, ground := Ground.phase }, { on := 9, ground := Ground.phase }, { on := 10, ground := Ground.textOnly Departure.lateStores }, { on := 11, ground := Ground.textOnly Departure.lateStores }], guard := none }) rfl (fun K114 hK114 => ?_) AllReadyH.nil)
  refine wp_stores_pw _ _ rfl HP.out rfl y rfl ?_
  intro v5 hp gr z
  have HT := hid (HT.out.trans (pw_two HP.out hp gr))
  have HB := hid (HB.out.trans (grown_below gr (by omega) (by show n ≤ v4.heap.size; omega)))
  have PB := hid (PB.out.grown gr (fun e => hnp (Option.some.inj e)))
  have AB := hid (AB.out.grown gr (fun e => hag (Option.some.inj e)))
  have HY2 := hid (show PxAt v5 g2 0 y from fun j hj => (cell_grown gr (fun e => hg2g (Option.some.inj e).symm) (p := ⟨g2, 0 + j, none⟩) hg4).trans (HY2.out j hj))
  have HP := hid hp
  have hs5 : v4.heap.size ≤ v5.heap.size := by show v4.drew.heap.size ≤ _; omega
  clear hp gr z
  refine hK114.out _ _ (⟨(BoxAt.cell PB.out 4).trans (by show some q.pr.val = _; rw [HSl.out]; rfl), (BoxAt.cell AB.out 4).trans (by show some q2.pr.val = _; rw [HV2.out]; rfl), (BoxAt.cell AB.out 2).trans (by show some (Value.int .i64 q2.nx) = _; rw [HM2.out]), HY2.out⟩) (fun hHeld114 => ?_)
  clear hK114 K114
  try simp only [Act.put]
  refine wpAnyH_take (i := 14) (oi := { dst := some 37, op := Op.nilCheck (Operand.tmp 29), type := 0, pos := "times.go:110", after := #[{ on := 5, ground := Ground.data }, { on := 0, ground := Ground.phase }, { on := 1, ground := Ground.phase }, { on := 2, ground := Ground.phase }, { on := 3, ground := Ground.phase }, { on := 4, ground := Ground.phase }, { on := 5, ground := Ground.phase }, { on := 6, ground := Ground.phase }, { on := 7, ground := Ground.phase }, { on := 8, ground := Ground.phase }, { on := 9, ground := Ground.phase }, { on := 10, ground := Ground.phase }, { on := 11, ground := Ground.phase }, { on := 12, ground := Ground.phase }, { on := 13, ground := Ground.phase }], guard := none }) (v := ?v115) rfl (by kernel_rfl) (by kernel_rfl) (by kernel_rfl) (fun _ _ _ h => h) (Or.inl ⟨by rfl, ?hy115⟩) (by assumption) ?rest115
  case hy115 => (intro w hSw; (try dsimp only at hSw); go_simp; try with_reducible rfl)
  simp only [Act.put, List.setIfInBounds_toArray, List.set_cons_zero, List.set_cons_succ]
  refine wpAnyH_take (i := 15) (oi := { dst := some 38, op := Op.fieldAddr 39 (Operand.tmp 37) 2, type := 0, pos := "times.go:110", after := #[{ on := 14, ground := Ground.data }, { on := 0, ground := Ground.phase }, { on := 1, ground := Ground.phase }, { on := 2, ground := Ground.phase }, { on := 3, ground := Ground.phase }, { on := 4, ground := Ground.phase }, { on := 5, ground := Ground.phase }, { on := 6, ground := Ground.phase }, { on := 7, ground := Ground.phase }, { on := 8, ground := Ground.phase }, { on := 9, ground := Ground.phase }, { on := 10, ground := Ground.phase }, { on := 11, ground := Ground.phase }, { on := 12, ground := Ground.phase }, { on := 13, ground := Ground.phase }], guard := none }) (v := ?v116) rfl (by kernel_rfl) (by kernel_rfl) (by kernel_rfl) (fun _ _ _ h => h) (Or.inl ⟨by rfl, ?hy116⟩) (by assumption) ?rest116
  case hy116 => (intro w hSw; (try dsimp only at hSw); go_simp; try with_reducible rfl)
  simp only [Act.put, List.setIfInBounds_toArray, List.set_cons_zero, List.set_cons_succ]
  refine wpAnyH_ready (rs := [16]) (by kernel_rfl) (by simp) (AllReadyH.cons (o := { dst := none, op := Op.store 3 (Operand.tmp 38) (Operand.tmp 35), type := 0, pos := "times.go:110", after := #[{ on := 15, ground := Ground.data }, { on := 11, ground := Ground.data }, { on := 13, ground := Ground.chain }, { on := 0, ground := Ground.phase }, { on := 1, ground := Ground.phase }, { on := 2, ground := Ground.phase }, { on := 3, ground := Ground.phase }, { on := 4, ground := Ground.phase }, { on := 5, ground := Ground.phase }, { on := 6, ground := Ground.phase }, { on := 7, ground := Ground.phase }, { on := 8, ground := Ground.phase }, { on := 9, ground := Ground.phase }, { on := 10, ground := Ground.phase }, { on := 11, ground := Ground.phase }, { on := 12, ground := Ground.phase }, { on := 13, ground := Ground.phase }], guard := none }) rfl (fun K117 hK117 => ?_) AllReadyH.nil)
  refine wp_store_box 3 _ _ rfl P 2 (.int .i64 m) rfl rfl rfl rfl (by kernel_rfl) _ _ PB.out (by simp [PaV.cells]) ?_
  intro v6 b gr z
  have HT := hid (HT.out.trans (two_box PB.out b gr))
  have HB := hid (HB.out.trans (grown_below gr hn (by omega)))
  have PB := hid (show BoxAt v6 P 39 (PaV.cells { q with nx := m }).toArray by simpa [PaV.cells] using b)
  have AB := hid (AB.out.grown gr (fun e => hap (Option.some.inj e)))
  have HY2 := hid (show PxAt v6 g2 0 y from fun j hj => (cell_grown gr (fun e => hg2p (Option.some.inj e).symm) (p := ⟨g2, 0 + j, none⟩) (show g2 < v5.heap.size by have e4 : v4.drew.heap.size = v4.heap.size := rfl; omega)).trans (HY2.out j hj))
  have HP := hid (HP.out.grown gr hnp)
  clear b gr z
  refine hK117.out _ _ (⟨(BoxAt.cell PB.out 4).trans (by show some q.pr.val = _; rw [HSl.out]; rfl), (BoxAt.cell AB.out 4).trans (by show some q2.pr.val = _; rw [HV2.out]; rfl), (BoxAt.cell AB.out 2).trans (by show some (Value.int .i64 q2.nx) = _; rw [HM2.out]), HY2.out⟩) (fun hHeld117 => ?_)
  clear hK117 K117
  try simp only [Act.put]
  refine wpAnyH_done (by kernel_rfl) ?_ _
  clear hHeld hHeld114 hHeld117
  go_wp2_with fail
  refine bodyPost_end (results_none rfl _ _ _) rfl ?_
  exact ⟨rfl, PB.out, HP.out.stop, HT.out, HB.out⟩

theorem goon_any {w : World} {base P n g cap : Nat} {c : Pa} (k : Nat) (code : Int) (h : UP w base P ⟨some ⟨g, 0, none⟩, c.pr.length, cap⟩ c) (hk : k < c.pr.length) (hsm : c.small) (hb : base ≤ w.heap.size) (hn : n ≤ P) (hnb : n ≤ base) :
    Calls Try.prog 32 #[.pointer (some ⟨P, 0, none⟩), .int .i64 (k : Nat), .int .i64 code] w fun e w' => e = .returned (.tuple #[]) ∧
      UP w' base P ⟨some ⟨g, 0, none⟩, c.pr.length, cap⟩ (goP c (k : Int) code 0) ∧ TwoT g P w w' ∧ Below n w w' := by
  obtain ⟨q, hq, ho, hs⟩ := h
  have hop := ho.pr
  rw [hs] at hop
  refine (goon_core (N := c.pr.length) k code hq hop rfl hs ho.nx rfl rfl rfl hk hsm.pr hb hn hnb).mono ?_
  rintro e w' ⟨rfl, h1, h2, h3, h4⟩
  refine ⟨rfl, ⟨_, h1, ?_, hs⟩, h3, h4⟩
  rw [go_in hk]
  have := ho.procs (S := SP) (by unfold SP; decide) (by unfold SP; decide) (by unfold SP; decide) (by unfold SP; decide) (by unfold SP; decide) (by unfold SP; decide) (by unfold SP; decide) (by unfold SP; decide) h3.t _ ((goD code 0 (c.pr.getD k Px.zero)).nxt c.nx) (by rw [hs]; exact h2)
  exact this
end Go.Proofs.Ytdanfnbclbiidaa
