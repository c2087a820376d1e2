/-
  What Block and Go hand to change.
-/
import Derived.Test.YtdanfnbclbiidaaQDeeds
import Derived.Deep.RegionHeld3
namespace Go.Proofs.Ytdanfnbclbiidaa
open Go.RowKit
set_option linter.unusedVariables false

set_option maxRecDepth 100000 in
set_option maxHeartbeats 1600000 in
theorem block_any {w : World} {base g cap i : Nat} {L : List Px} {P O : Nat} {r : Px} {q : PaV} (hp : PD w base g cap i L P O r q) (ki ob un ca : Int) (A : Nat) (B : Nat) (C : Nat) (D : Nat) (bA : BoxAt w A 3 #[.int .i64 ki]) (bB : BoxAt w B 3 #[.int .i64 ob]) (bC : BoxAt w C 3 #[.int .i64 un]) (bD : BoxAt w D 3 #[.int .i64 ca]) :
    Calls Try.prog 58 #[.pointer (some ⟨g, i * 18, none⟩), qv P O, .pointer (some ⟨A, 0, none⟩), .pointer (some ⟨B, 0, none⟩), .pointer (some ⟨C, 0, none⟩), .pointer (some ⟨D, 0, none⟩)] w fun e w' => e = .returned (.int .i64 (blockD ki ob un ca r).k) ∧ PD w' base g cap i L P O ((blockD ki ob un ca r).out q.nx) { q with nx := (blockD ki ob un ca r).nxt q.nx } ∧ TwoT g P w w' := by
  have eg := Try.qvEnters
  unfold qv
  have HD := hid hp
  have HT := hid (TwoT.refl g P w)
  have BA := hid bA
  have BB := hid bB
  have BC := hid bC
  have BD := hid bD
  have cst : w.cell? ⟨g, i * 18, none⟩ = some (.int .i64 r.st) := (HD.out.pw.cell 0 (by decide)).trans rfl
  have cpr : w.cell? ⟨g, i * 18 + 1, none⟩ = some (.int .i64 r.pr) := (HD.out.pw.cell 1 (by decide)).trans rfl
  have csu : w.cell? ⟨g, i * 18 + 2, none⟩ = some (.bool r.su) := (HD.out.pw.cell 2 (by decide)).trans rfl
  have kA0 : w.cell? ⟨A, 0, none⟩ = some (.int .i64 ki) := (BA.out.cell 0).trans rfl
  have kB0 : w.cell? ⟨B, 0, none⟩ = some (.int .i64 ob) := (BB.out.cell 0).trans rfl
  have kC0 : w.cell? ⟨C, 0, none⟩ = some (.int .i64 un) := (BC.out.cell 0).trans rfl
  have kD0 : w.cell? ⟨D, 0, none⟩ = some (.int .i64 ca) := (BD.out.cell 0).trans rfl
  clear hp bA bB bC bD
  go_enter Try.func58, Try.ntmps58
  by_cases h0 : r.st = 1
  · have hs : blockD ki ob un ca r = ⟨{ r with st := 2, ki := ki, ob := ob, un := un, ca := ca }, false, 0⟩ := by unfold blockD; rw [if_pos h0]
    rw [hs]
    have eg := eg
    go_wp2_with (first
        | (refine wpList_store_pd rfl _ _ _ rfl rfl HD.out 0 (by decide) (.int .i64 2) rfl rfl rfl rfl (by kernel_rfl) ({ r with st := 2 }) rfl ?_
           intro w1 hd ht
           have HD := hid hd
           have HT := hid (HT.out.trans ht)
           have BA := hid (BA.out.turn (by unfold SP; decide) ht.t)
           have BB := hid (BB.out.turn (by unfold SP; decide) ht.t)
           have BC := hid (BC.out.turn (by unfold SP; decide) ht.t)
           have BD := hid (BD.out.turn (by unfold SP; decide) ht.t)
           have cst : w1.cell? ⟨g, i * 18, none⟩ = some (.int .i64 ({ r with st := 2 }).st) := (HD.out.pw.cell 0 (by decide)).trans rfl
           have cpr : w1.cell? ⟨g, i * 18 + 1, none⟩ = some (.int .i64 ({ r with st := 2 }).pr) := (HD.out.pw.cell 1 (by decide)).trans rfl
           have csu : w1.cell? ⟨g, i * 18 + 2, none⟩ = some (.bool ({ r with st := 2 }).su) := (HD.out.pw.cell 2 (by decide)).trans rfl
           have kA0 : w1.cell? ⟨A, 0, none⟩ = some (.int .i64 ki) := (BA.out.cell 0).trans rfl
           have kB0 : w1.cell? ⟨B, 0, none⟩ = some (.int .i64 ob) := (BB.out.cell 0).trans rfl
           have kC0 : w1.cell? ⟨C, 0, none⟩ = some (.int .i64 un) := (BC.out.cell 0).trans rfl
           have kD0 : w1.cell? ⟨D, 0, none⟩ = some (.int .i64 ca) := (BD.out.cell 0).trans rfl
           clear hd ht))
    go_wp2_with fail
    refine wp_region_held_drew (S := (fun w' => BoxAt w' A 3 #[.int .i64 ki] ∧ BoxAt w' B 3 #[.int .i64 ob] ∧ BoxAt w' C 3 #[.int .i64 un] ∧ BoxAt w' D 3 #[.int .i64 ca])) (by kernel_rfl) (⟨BA.out.drew, BB.out.drew, BC.out.drew, BD.out.drew⟩) (fun hHeld => ?_)
    refine wpAnyH_take (i := 0) (oi := { dst := some 17, op := Op.move (Operand.tmp 0), type := 89, pos := "procs.go:125", after := #[], guard := none }) (v := ?_) rfl (by kernel_rfl) (by kernel_rfl) (by kernel_rfl) (fun _ _ _ h => h) (Or.inl ⟨by rfl, ?_⟩) (by assumption) ?_
    rotate_left
    · (intro w hSw; (try dsimp only at hSw); go_simp; try with_reducible rfl)
    simp only [Act.put, List.setIfInBounds_toArray, List.set_cons_zero, List.set_cons_succ]
    refine wpAnyH_take (i := 1) (oi := { dst := some 18, op := Op.move (Operand.tmp 0), type := 89, pos := "procs.go:125", after := #[{ on := 6, ground := Ground.gcOnly Departure.lateStores }], guard := none }) (v := ?_) rfl (by kernel_rfl) (by kernel_rfl) (by kernel_rfl) (fun _ _ _ h => h) (Or.inl ⟨by rfl, ?_⟩) (by assumption) ?_
    rotate_left
    · (intro w hSw; (try dsimp only at hSw); go_simp; try with_reducible rfl)
    simp only [Act.put, List.setIfInBounds_toArray, List.set_cons_zero, List.set_cons_succ]
    refine wpAnyH_take (i := 2) (oi := { dst := some 19, op := Op.load 3 (Operand.tmp 2), type := 3, pos := "procs.go:125", after := #[], guard := none }) (v := ?_) rfl (by kernel_rfl) (by kernel_rfl) (by kernel_rfl) (fun _ _ _ h => h) (Or.inl ⟨by rfl, ?_⟩) (by assumption) ?_
    rotate_left
    · (intro w hSw; (try dsimp only at hSw); obtain ⟨zA, zB, zC, zD⟩ := hSw; have kA0 : w.cell? ⟨A, 0, none⟩ = some (.int .i64 ki) := (zA.cell 0).trans rfl; have kB0 : w.cell? ⟨B, 0, none⟩ = some (.int .i64 ob) := (zB.cell 0).trans rfl; have kC0 : w.cell? ⟨C, 0, none⟩ = some (.int .i64 un) := (zC.cell 0).trans rfl; have kD0 : w.cell? ⟨D, 0, none⟩ = some (.int .i64 ca) := (zD.cell 0).trans rfl; go_simp; try with_reducible rfl)
    simp only [Act.put, List.setIfInBounds_toArray, List.set_cons_zero, List.set_cons_succ]
    refine wpAnyH_take (i := 3) (oi := { dst := some 20, op := Op.load 3 (Operand.tmp 3), type := 3, pos := "procs.go:125", after := #[], guard := none }) (v := ?_) rfl (by kernel_rfl) (by kernel_rfl) (by kernel_rfl) (fun _ _ _ h => h) (Or.inl ⟨by rfl, ?_⟩) (by assumption) ?_
    rotate_left
    · (intro w hSw; (try dsimp only at hSw); obtain ⟨zA, zB, zC, zD⟩ := hSw; have kA0 : w.cell? ⟨A, 0, none⟩ = some (.int .i64 ki) := (zA.cell 0).trans rfl; have kB0 : w.cell? ⟨B, 0, none⟩ = some (.int .i64 ob) := (zB.cell 0).trans rfl; have kC0 : w.cell? ⟨C, 0, none⟩ = some (.int .i64 un) := (zC.cell 0).trans rfl; have kD0 : w.cell? ⟨D, 0, none⟩ = some (.int .i64 ca) := (zD.cell 0).trans rfl; go_simp; try with_reducible rfl)
    simp only [Act.put, List.setIfInBounds_toArray, List.set_cons_zero, List.set_cons_succ]
    refine wpAnyH_take (i := 4) (oi := { dst := some 21, op := Op.nilCheck (Operand.tmp 17), type := 0, pos := "procs.go:125", after := #[{ on := 0, ground := Ground.data }, { on := 0, ground := Ground.phase }, { on := 1, ground := Ground.textOnly Departure.lateStores }, { on := 2, ground := Ground.phase }, { on := 3, ground := Ground.textOnly Departure.inlinedCapture }], guard := none }) (v := ?_) rfl (by kernel_rfl) (by kernel_rfl) (by kernel_rfl) (fun _ _ _ h => h) (Or.inl ⟨by rfl, ?_⟩) (by assumption) ?_
    rotate_left
    · (intro w hSw; (try dsimp only at hSw); go_simp; try with_reducible rfl)
    simp only [Act.put, List.setIfInBounds_toArray, List.set_cons_zero, List.set_cons_succ]
    refine wpAnyH_take (i := 5) (oi := { dst := some 22, op := Op.fieldAddr 57 (Operand.tmp 21) 6, type := 0, pos := "procs.go:125", after := #[{ on := 4, ground := Ground.data }, { on := 0, ground := Ground.phase }, { on := 1, ground := Ground.textOnly Departure.lateStores }, { on := 2, ground := Ground.phase }, { on := 3, ground := Ground.textOnly Departure.inlinedCapture }], guard := none }) (v := ?_) rfl (by kernel_rfl) (by kernel_rfl) (by kernel_rfl) (fun _ _ _ h => h) (Or.inl ⟨by rfl, ?_⟩) (by assumption) ?_
    rotate_left
    · (intro w hSw; (try dsimp only at hSw); go_simp; try with_reducible rfl)
    simp only [Act.put, List.setIfInBounds_toArray, List.set_cons_zero, List.set_cons_succ]
    refine wpAnyH_ready (rs := [6]) (by kernel_rfl) (by simp) (AllReadyH.cons (o := { dst := none, op := Op.store 3 (Operand.tmp 22) (Operand.tmp 19), type := 0, pos := "procs.go:125", after := #[{ on := 5, ground := Ground.data }, { on := 2, ground := Ground.data }, { on := 0, ground := Ground.phase }, { on := 1, ground := Ground.textOnly Departure.lateStores }, { on := 2, ground := Ground.phase }, { on := 3, ground := Ground.textOnly Departure.inlinedCapture }], guard := none }) rfl (fun K7 hK7 => ?_) AllReadyH.nil)
    have HD := hid (PD.drew HD.out)
    have HT := hid (HT.out.trans TwoT.drew)
    have BA := hid BA.out.drew
    have BB := hid BB.out.drew
    have BC := hid BC.out.drew
    have BD := hid BD.out.drew
    refine wp_store_pd _ _ _ rfl HD.out 10 (by decide) (.int .i64 ki) rfl rfl rfl rfl (by kernel_rfl) ({ r with st := 2, ki := ki }) rfl ?_
    intro w2 hd ht
    have HD := hid hd
    have HT := hid (HT.out.trans ht)
    have BA := hid (BA.out.turn (by unfold SP; decide) ht.t)
    have BB := hid (BB.out.turn (by unfold SP; decide) ht.t)
    have BC := hid (BC.out.turn (by unfold SP; decide) ht.t)
    have BD := hid (BD.out.turn (by unfold SP; decide) ht.t)
    clear hd ht
    refine hK7.out _ _ (⟨BA.out, BB.out, BC.out, BD.out⟩) (fun hHeld7 => ?_)
    clear hK7 K7
    try simp only [Act.put]
    refine wpAnyH_take (i := 7) (oi := { dst := some 23, op := Op.nilCheck (Operand.tmp 18), type := 0, pos := "procs.go:125", after := #[{ on := 1, ground := Ground.data }, { on := 0, ground := Ground.phase }, { on := 1, ground := Ground.phase }, { on := 2, ground := Ground.phase }, { on := 3, ground := Ground.phase }, { on := 4, ground := Ground.phase }, { on := 5, ground := Ground.phase }, { on := 6, ground := Ground.phase }], guard := none }) (v := ?_) rfl (by kernel_rfl) (by kernel_rfl) (by kernel_rfl) (fun _ _ _ h => h) (Or.inl ⟨by rfl, ?_⟩) (by assumption) ?_
    rotate_left
    · (intro w hSw; (try dsimp only at hSw); go_simp; try with_reducible rfl)
    simp only [Act.put, List.setIfInBounds_toArray, List.set_cons_zero, List.set_cons_succ]
    refine wpAnyH_take (i := 8) (oi := { dst := some 24, op := Op.fieldAddr 57 (Operand.tmp 23) 7, type := 0, pos := "procs.go:125", after := #[{ on := 7, ground := Ground.data }, { on := 0, ground := Ground.phase }, { on := 1, ground := Ground.phase }, { on := 2, ground := Ground.phase }, { on := 3, ground := Ground.phase }, { on := 4, ground := Ground.phase }, { on := 5, ground := Ground.phase }, { on := 6, ground := Ground.phase }], guard := none }) (v := ?_) rfl (by kernel_rfl) (by kernel_rfl) (by kernel_rfl) (fun _ _ _ h => h) (Or.inl ⟨by rfl, ?_⟩) (by assumption) ?_
    rotate_left
    · (intro w hSw; (try dsimp only at hSw); go_simp; try with_reducible rfl)
    simp only [Act.put, List.setIfInBounds_toArray, List.set_cons_zero, List.set_cons_succ]
    refine wpAnyH_ready (rs := [9]) (by kernel_rfl) (by simp) (AllReadyH.cons (o := { dst := none, op := Op.store 3 (Operand.tmp 24) (Operand.tmp 20), type := 0, pos := "procs.go:125", after := #[{ on := 8, ground := Ground.data }, { on := 3, ground := Ground.data }, { on := 6, ground := Ground.chain }, { on := 0, ground := Ground.phase }, { on := 1, ground := Ground.phase }, { on := 2, ground := Ground.phase }, { on := 3, ground := Ground.phase }, { on := 4, ground := Ground.phase }, { on := 5, ground := Ground.phase }, { on := 6, ground := Ground.phase }], guard := none }) rfl (fun K10 hK10 => ?_) AllReadyH.nil)
    refine wp_store_pd _ _ _ rfl HD.out 11 (by decide) (.int .i64 ob) rfl rfl rfl rfl (by kernel_rfl) ({ r with st := 2, ki := ki, ob := ob }) rfl ?_
    intro w3 hd ht
    have HD := hid hd
    have HT := hid (HT.out.trans ht)
    have BA := hid (BA.out.turn (by unfold SP; decide) ht.t)
    have BB := hid (BB.out.turn (by unfold SP; decide) ht.t)
    have BC := hid (BC.out.turn (by unfold SP; decide) ht.t)
    have BD := hid (BD.out.turn (by unfold SP; decide) ht.t)
    clear hd ht
    refine hK10.out _ _ (⟨BA.out, BB.out, BC.out, BD.out⟩) (fun hHeld10 => ?_)
    clear hK10 K10
    try simp only [Act.put]
    refine wpAnyH_done (by kernel_rfl) ?_ _
    clear hHeld hHeld7 hHeld10
    have HD := hid (show PD w3 base g cap i L P O ({ r with st := 2, ki := ki, ob := ob }) q from HD.out)
    have cst : w3.cell? ⟨g, i * 18, none⟩ = some (.int .i64 ({ r with st := 2, ki := ki, ob := ob }).st) := (HD.out.pw.cell 0 (by decide)).trans rfl
    have cpr : w3.cell? ⟨g, i * 18 + 1, none⟩ = some (.int .i64 ({ r with st := 2, ki := ki, ob := ob }).pr) := (HD.out.pw.cell 1 (by decide)).trans rfl
    have csu : w3.cell? ⟨g, i * 18 + 2, none⟩ = some (.bool ({ r with st := 2, ki := ki, ob := ob }).su) := (HD.out.pw.cell 2 (by decide)).trans rfl
    have kA0 : w3.cell? ⟨A, 0, none⟩ = some (.int .i64 ki) := (BA.out.cell 0).trans rfl
    have kB0 : w3.cell? ⟨B, 0, none⟩ = some (.int .i64 ob) := (BB.out.cell 0).trans rfl
    have kC0 : w3.cell? ⟨C, 0, none⟩ = some (.int .i64 un) := (BC.out.cell 0).trans rfl
    have kD0 : w3.cell? ⟨D, 0, none⟩ = some (.int .i64 ca) := (BD.out.cell 0).trans rfl
    go_wp2_with fail
    refine wp_region_held_drew (S := (fun w' => BoxAt w' A 3 #[.int .i64 ki] ∧ BoxAt w' B 3 #[.int .i64 ob] ∧ BoxAt w' C 3 #[.int .i64 un] ∧ BoxAt w' D 3 #[.int .i64 ca])) (by kernel_rfl) (⟨BA.out.drew, BB.out.drew, BC.out.drew, BD.out.drew⟩) (fun hHeld => ?_)
    refine wpAnyH_take (i := 0) (oi := { dst := some 25, op := Op.move (Operand.tmp 0), type := 89, pos := "procs.go:126", after := #[], guard := none }) (v := ?_) rfl (by kernel_rfl) (by kernel_rfl) (by kernel_rfl) (fun _ _ _ h => h) (Or.inl ⟨by rfl, ?_⟩) (by assumption) ?_
    rotate_left
    · (intro w hSw; (try dsimp only at hSw); go_simp; try with_reducible rfl)
    simp only [Act.put, List.setIfInBounds_toArray, List.set_cons_zero, List.set_cons_succ]
    refine wpAnyH_take (i := 1) (oi := { dst := some 26, op := Op.move (Operand.tmp 0), type := 89, pos := "procs.go:126", after := #[{ on := 6, ground := Ground.gcOnly Departure.lateStores }], guard := none }) (v := ?_) rfl (by kernel_rfl) (by kernel_rfl) (by kernel_rfl) (fun _ _ _ h => h) (Or.inl ⟨by rfl, ?_⟩) (by assumption) ?_
    rotate_left
    · (intro w hSw; (try dsimp only at hSw); go_simp; try with_reducible rfl)
    simp only [Act.put, List.setIfInBounds_toArray, List.set_cons_zero, List.set_cons_succ]
    refine wpAnyH_take (i := 2) (oi := { dst := some 27, op := Op.load 3 (Operand.tmp 4), type := 3, pos := "procs.go:126", after := #[], guard := none }) (v := ?_) rfl (by kernel_rfl) (by kernel_rfl) (by kernel_rfl) (fun _ _ _ h => h) (Or.inl ⟨by rfl, ?_⟩) (by assumption) ?_
    rotate_left
    · (intro w hSw; (try dsimp only at hSw); obtain ⟨zA, zB, zC, zD⟩ := hSw; have kA0 : w.cell? ⟨A, 0, none⟩ = some (.int .i64 ki) := (zA.cell 0).trans rfl; have kB0 : w.cell? ⟨B, 0, none⟩ = some (.int .i64 ob) := (zB.cell 0).trans rfl; have kC0 : w.cell? ⟨C, 0, none⟩ = some (.int .i64 un) := (zC.cell 0).trans rfl; have kD0 : w.cell? ⟨D, 0, none⟩ = some (.int .i64 ca) := (zD.cell 0).trans rfl; go_simp; try with_reducible rfl)
    simp only [Act.put, List.setIfInBounds_toArray, List.set_cons_zero, List.set_cons_succ]
    refine wpAnyH_take (i := 3) (oi := { dst := some 28, op := Op.load 3 (Operand.tmp 5), type := 3, pos := "procs.go:126", after := #[], guard := none }) (v := ?_) rfl (by kernel_rfl) (by kernel_rfl) (by kernel_rfl) (fun _ _ _ h => h) (Or.inl ⟨by rfl, ?_⟩) (by assumption) ?_
    rotate_left
    · (intro w hSw; (try dsimp only at hSw); obtain ⟨zA, zB, zC, zD⟩ := hSw; have kA0 : w.cell? ⟨A, 0, none⟩ = some (.int .i64 ki) := (zA.cell 0).trans rfl; have kB0 : w.cell? ⟨B, 0, none⟩ = some (.int .i64 ob) := (zB.cell 0).trans rfl; have kC0 : w.cell? ⟨C, 0, none⟩ = some (.int .i64 un) := (zC.cell 0).trans rfl; have kD0 : w.cell? ⟨D, 0, none⟩ = some (.int .i64 ca) := (zD.cell 0).trans rfl; go_simp; try with_reducible rfl)
    simp only [Act.put, List.setIfInBounds_toArray, List.set_cons_zero, List.set_cons_succ]
    refine wpAnyH_take (i := 4) (oi := { dst := some 29, op := Op.nilCheck (Operand.tmp 25), type := 0, pos := "procs.go:126", after := #[{ on := 0, ground := Ground.data }, { on := 0, ground := Ground.phase }, { on := 1, ground := Ground.textOnly Departure.lateStores }, { on := 2, ground := Ground.phase }, { on := 3, ground := Ground.textOnly Departure.inlinedCapture }], guard := none }) (v := ?_) rfl (by kernel_rfl) (by kernel_rfl) (by kernel_rfl) (fun _ _ _ h => h) (Or.inl ⟨by rfl, ?_⟩) (by assumption) ?_
    rotate_left
    · (intro w hSw; (try dsimp only at hSw); go_simp; try with_reducible rfl)
    simp only [Act.put, List.setIfInBounds_toArray, List.set_cons_zero, List.set_cons_succ]
    refine wpAnyH_take (i := 5) (oi := { dst := some 30, op := Op.fieldAddr 57 (Operand.tmp 29) 5, type := 0, pos := "procs.go:126", after := #[{ on := 4, ground := Ground.data }, { on := 0, ground := Ground.phase }, { on := 1, ground := Ground.textOnly Departure.lateStores }, { on := 2, ground := Ground.phase }, { on := 3, ground := Ground.textOnly Departure.inlinedCapture }], guard := none }) (v := ?_) rfl (by kernel_rfl) (by kernel_rfl) (by kernel_rfl) (fun _ _ _ h => h) (Or.inl ⟨by rfl, ?_⟩) (by assumption) ?_
    rotate_left
    · (intro w hSw; (try dsimp only at hSw); go_simp; try with_reducible rfl)
    simp only [Act.put, List.setIfInBounds_toArray, List.set_cons_zero, List.set_cons_succ]
    refine wpAnyH_ready (rs := [6]) (by kernel_rfl) (by simp) (AllReadyH.cons (o := { dst := none, op := Op.store 3 (Operand.tmp 30) (Operand.tmp 27), type := 0, pos := "procs.go:126", after := #[{ on := 5, ground := Ground.data }, { on := 2, ground := Ground.data }, { on := 0, ground := Ground.phase }, { on := 1, ground := Ground.textOnly Departure.lateStores }, { on := 2, ground := Ground.phase }, { on := 3, ground := Ground.textOnly Departure.inlinedCapture }], guard := none }) rfl (fun K7 hK7 => ?_) AllReadyH.nil)
    have HD := hid (PD.drew HD.out)
    have HT := hid (HT.out.trans TwoT.drew)
    have BA := hid BA.out.drew
    have BB := hid BB.out.drew
    have BC := hid BC.out.drew
    have BD := hid BD.out.drew
    refine wp_store_pd _ _ _ rfl HD.out 9 (by decide) (.int .i64 un) rfl rfl rfl rfl (by kernel_rfl) ({ r with st := 2, ki := ki, ob := ob, un := un }) rfl ?_
    intro w4 hd ht
    have HD := hid hd
    have HT := hid (HT.out.trans ht)
    have BA := hid (BA.out.turn (by unfold SP; decide) ht.t)
    have BB := hid (BB.out.turn (by unfold SP; decide) ht.t)
    have BC := hid (BC.out.turn (by unfold SP; decide) ht.t)
    have BD := hid (BD.out.turn (by unfold SP; decide) ht.t)
    clear hd ht
    refine hK7.out _ _ (⟨BA.out, BB.out, BC.out, BD.out⟩) (fun hHeld7 => ?_)
    clear hK7 K7
    try simp only [Act.put]
    refine wpAnyH_take (i := 7) (oi := { dst := some 31, op := Op.nilCheck (Operand.tmp 26), type := 0, pos := "procs.go:126", after := #[{ on := 1, ground := Ground.data }, { on := 0, ground := Ground.phase }, { on := 1, ground := Ground.phase }, { on := 2, ground := Ground.phase }, { on := 3, ground := Ground.phase }, { on := 4, ground := Ground.phase }, { on := 5, ground := Ground.phase }, { on := 6, ground := Ground.phase }], guard := none }) (v := ?_) rfl (by kernel_rfl) (by kernel_rfl) (by kernel_rfl) (fun _ _ _ h => h) (Or.inl ⟨by rfl, ?_⟩) (by assumption) ?_
    rotate_left
    · (intro w hSw; (try dsimp only at hSw); go_simp; try with_reducible rfl)
    simp only [Act.put, List.setIfInBounds_toArray, List.set_cons_zero, List.set_cons_succ]
    refine wpAnyH_take (i := 8) (oi := { dst := some 32, op := Op.fieldAddr 57 (Operand.tmp 31) 13, type := 0, pos := "procs.go:126", after := #[{ on := 7, ground := Ground.data }, { on := 0, ground := Ground.phase }, { on := 1, ground := Ground.phase }, { on := 2, ground := Ground.phase }, { on := 3, ground := Ground.phase }, { on := 4, ground := Ground.phase }, { on := 5, ground := Ground.phase }, { on := 6, ground := Ground.phase }], guard := none }) (v := ?_) rfl (by kernel_rfl) (by kernel_rfl) (by kernel_rfl) (fun _ _ _ h => h) (Or.inl ⟨by rfl, ?_⟩) (by assumption) ?_
    rotate_left
    · (intro w hSw; (try dsimp only at hSw); go_simp; try with_reducible rfl)
    simp only [Act.put, List.setIfInBounds_toArray, List.set_cons_zero, List.set_cons_succ]
    refine wpAnyH_ready (rs := [9]) (by kernel_rfl) (by simp) (AllReadyH.cons (o := { dst := none, op := Op.store 3 (Operand.tmp 32) (Operand.tmp 28), type := 0, pos := "procs.go:126", after := #[{ on := 8, ground := Ground.data }, { on := 3, ground := Ground.data }, { on := 6, ground := Ground.chain }, { on := 0, ground := Ground.phase }, { on := 1, ground := Ground.phase }, { on := 2, ground := Ground.phase }, { on := 3, ground := Ground.phase }, { on := 4, ground := Ground.phase }, { on := 5, ground := Ground.phase }, { on := 6, ground := Ground.phase }], guard := none }) rfl (fun K10 hK10 => ?_) AllReadyH.nil)
    refine wp_store_pd _ _ _ rfl HD.out 17 (by decide) (.int .i64 ca) rfl rfl rfl rfl (by kernel_rfl) ({ r with st := 2, ki := ki, ob := ob, un := un, ca := ca }) rfl ?_
    intro w5 hd ht
    have HD := hid hd
    have HT := hid (HT.out.trans ht)
    have BA := hid (BA.out.turn (by unfold SP; decide) ht.t)
    have BB := hid (BB.out.turn (by unfold SP; decide) ht.t)
    have BC := hid (BC.out.turn (by unfold SP; decide) ht.t)
    have BD := hid (BD.out.turn (by unfold SP; decide) ht.t)
    clear hd ht
    refine hK10.out _ _ (⟨BA.out, BB.out, BC.out, BD.out⟩) (fun hHeld10 => ?_)
    clear hK10 K10
    try simp only [Act.put]
    refine wpAnyH_done (by kernel_rfl) ?_ _
    clear hHeld hHeld7 hHeld10
    have HD := hid (show PD w5 base g cap i L P O ({ r with st := 2, ki := ki, ob := ob, un := un, ca := ca }) q from HD.out)
    have cst : w5.cell? ⟨g, i * 18, none⟩ = some (.int .i64 ({ r with st := 2, ki := ki, ob := ob, un := un, ca := ca }).st) := (HD.out.pw.cell 0 (by decide)).trans rfl
    have cpr : w5.cell? ⟨g, i * 18 + 1, none⟩ = some (.int .i64 ({ r with st := 2, ki := ki, ob := ob, un := un, ca := ca }).pr) := (HD.out.pw.cell 1 (by decide)).trans rfl
    have csu : w5.cell? ⟨g, i * 18 + 2, none⟩ = some (.bool ({ r with st := 2, ki := ki, ob := ob, un := un, ca := ca }).su) := (HD.out.pw.cell 2 (by decide)).trans rfl
    have kA0 : w5.cell? ⟨A, 0, none⟩ = some (.int .i64 ki) := (BA.out.cell 0).trans rfl
    have kB0 : w5.cell? ⟨B, 0, none⟩ = some (.int .i64 ob) := (BB.out.cell 0).trans rfl
    have kC0 : w5.cell? ⟨C, 0, none⟩ = some (.int .i64 un) := (BC.out.cell 0).trans rfl
    have kD0 : w5.cell? ⟨D, 0, none⟩ = some (.int .i64 ca) := (BD.out.cell 0).trans rfl
    go_wp2
    go_ret
    exact ⟨rfl, HD.out, HT.out⟩
  · have hs : blockD ki ob un ca r = ⟨r, false, 1⟩ := by unfold blockD; rw [if_neg h0]
    have hb0 : (r.st == 1) = false := by simpa using h0
    rw [hs]
    go_wp2
    go_ret
    exact ⟨rfl, HD.out, HT.out⟩

set_option maxRecDepth 100000 in
set_option maxHeartbeats 1600000 in
theorem go_any {w : World} {base g cap i : Nat} {L : List Px} {P O : Nat} {r : Px} {q : PaV} (hp : PD w base g cap i L P O r q) (p c v : Int) (A : Nat) (bA : BoxAt w A 92 #[.int .i64 p, .int .i64 c, .int .i64 v]) :
    Calls Try.prog 77 #[.pointer (some ⟨g, i * 18, none⟩), qv P O, .pointer (some ⟨A, 0, none⟩)] w fun e w' => e = .returned (.int .i64 (goD c v r).k) ∧ PD w' base g cap i L P O ((goD c v r).out q.nx) { q with nx := (goD c v r).nxt q.nx } ∧ TwoT g P w w' := by
  have eg := Try.qvEnters
  unfold qv
  have HD := hid hp
  have HT := hid (TwoT.refl g P w)
  have BA := hid bA
  have cst : w.cell? ⟨g, i * 18, none⟩ = some (.int .i64 r.st) := (HD.out.pw.cell 0 (by decide)).trans rfl
  have cpr : w.cell? ⟨g, i * 18 + 1, none⟩ = some (.int .i64 r.pr) := (HD.out.pw.cell 1 (by decide)).trans rfl
  have csu : w.cell? ⟨g, i * 18 + 2, none⟩ = some (.bool r.su) := (HD.out.pw.cell 2 (by decide)).trans rfl
  have kA0 : w.cell? ⟨A, 0, none⟩ = some (.int .i64 p) := (BA.out.cell 0).trans rfl
  have kA1 : w.cell? ⟨A, 1, none⟩ = some (.int .i64 c) := (BA.out.cell 1).trans rfl
  have kA2 : w.cell? ⟨A, 2, none⟩ = some (.int .i64 v) := (BA.out.cell 2).trans rfl
  clear hp bA
  go_enter Try.func77, Try.ntmps77
  by_cases h0 : r.st = 2
  · have hs : goD c v r = ⟨{ r with st := 1, un := -1, ki := 0, ob := 0, pe := true, co := c, va := v, r0 := c, r1 := v }, true, 0⟩ := by unfold goD; rw [if_pos h0]
    rw [hs]
    go_wp2_with (first
        | (refine wpList_store_pd rfl _ _ _ rfl rfl HD.out 0 (by decide) (.int .i64 1) rfl rfl rfl rfl (by kernel_rfl) ({ r with st := 1 }) rfl ?_
           intro w1 hd ht
           have HD := hid hd
           have HT := hid (HT.out.trans ht)
           have BA := hid (BA.out.turn (by unfold SP; decide) ht.t)
           have cst : w1.cell? ⟨g, i * 18, none⟩ = some (.int .i64 ({ r with st := 1 }).st) := (HD.out.pw.cell 0 (by decide)).trans rfl
           have cpr : w1.cell? ⟨g, i * 18 + 1, none⟩ = some (.int .i64 ({ r with st := 1 }).pr) := (HD.out.pw.cell 1 (by decide)).trans rfl
           have csu : w1.cell? ⟨g, i * 18 + 2, none⟩ = some (.bool ({ r with st := 1 }).su) := (HD.out.pw.cell 2 (by decide)).trans rfl
           have kA0 : w1.cell? ⟨A, 0, none⟩ = some (.int .i64 p) := (BA.out.cell 0).trans rfl
           have kA1 : w1.cell? ⟨A, 1, none⟩ = some (.int .i64 c) := (BA.out.cell 1).trans rfl
           have kA2 : w1.cell? ⟨A, 2, none⟩ = some (.int .i64 v) := (BA.out.cell 2).trans rfl
           clear hd ht)
        | (refine wpList_store_pd rfl _ _ _ rfl rfl HD.out 9 (by decide) (.int .i64 (-1)) rfl rfl rfl rfl (by kernel_rfl) ({ r with st := 1, un := -1 }) rfl ?_
           intro w2 hd ht
           have HD := hid hd
           have HT := hid (HT.out.trans ht)
           have BA := hid (BA.out.turn (by unfold SP; decide) ht.t)
           have cst : w2.cell? ⟨g, i * 18, none⟩ = some (.int .i64 ({ r with st := 1, un := -1 }).st) := (HD.out.pw.cell 0 (by decide)).trans rfl
           have cpr : w2.cell? ⟨g, i * 18 + 1, none⟩ = some (.int .i64 ({ r with st := 1, un := -1 }).pr) := (HD.out.pw.cell 1 (by decide)).trans rfl
           have csu : w2.cell? ⟨g, i * 18 + 2, none⟩ = some (.bool ({ r with st := 1, un := -1 }).su) := (HD.out.pw.cell 2 (by decide)).trans rfl
           have kA0 : w2.cell? ⟨A, 0, none⟩ = some (.int .i64 p) := (BA.out.cell 0).trans rfl
           have kA1 : w2.cell? ⟨A, 1, none⟩ = some (.int .i64 c) := (BA.out.cell 1).trans rfl
           have kA2 : w2.cell? ⟨A, 2, none⟩ = some (.int .i64 v) := (BA.out.cell 2).trans rfl
           clear hd ht)
        | (refine wpList_store_pd rfl _ _ _ rfl rfl HD.out 10 (by decide) (.int .i64 0) rfl rfl rfl rfl (by kernel_rfl) ({ r with st := 1, un := -1, ki := 0 }) rfl ?_
           intro w3 hd ht
           have HD := hid hd
           have HT := hid (HT.out.trans ht)
           have BA := hid (BA.out.turn (by unfold SP; decide) ht.t)
           have cst : w3.cell? ⟨g, i * 18, none⟩ = some (.int .i64 ({ r with st := 1, un := -1, ki := 0 }).st) := (HD.out.pw.cell 0 (by decide)).trans rfl
           have cpr : w3.cell? ⟨g, i * 18 + 1, none⟩ = some (.int .i64 ({ r with st := 1, un := -1, ki := 0 }).pr) := (HD.out.pw.cell 1 (by decide)).trans rfl
           have csu : w3.cell? ⟨g, i * 18 + 2, none⟩ = some (.bool ({ r with st := 1, un := -1, ki := 0 }).su) := (HD.out.pw.cell 2 (by decide)).trans rfl
           have kA0 : w3.cell? ⟨A, 0, none⟩ = some (.int .i64 p) := (BA.out.cell 0).trans rfl
           have kA1 : w3.cell? ⟨A, 1, none⟩ = some (.int .i64 c) := (BA.out.cell 1).trans rfl
           have kA2 : w3.cell? ⟨A, 2, none⟩ = some (.int .i64 v) := (BA.out.cell 2).trans rfl
           clear hd ht)
        | (refine wpList_store_pd rfl _ _ _ rfl rfl HD.out 11 (by decide) (.int .i64 0) rfl rfl rfl rfl (by kernel_rfl) ({ r with st := 1, un := -1, ki := 0, ob := 0 }) rfl ?_
           intro w4 hd ht
           have HD := hid hd
           have HT := hid (HT.out.trans ht)
           have BA := hid (BA.out.turn (by unfold SP; decide) ht.t)
           have cst : w4.cell? ⟨g, i * 18, none⟩ = some (.int .i64 ({ r with st := 1, un := -1, ki := 0, ob := 0 }).st) := (HD.out.pw.cell 0 (by decide)).trans rfl
           have cpr : w4.cell? ⟨g, i * 18 + 1, none⟩ = some (.int .i64 ({ r with st := 1, un := -1, ki := 0, ob := 0 }).pr) := (HD.out.pw.cell 1 (by decide)).trans rfl
           have csu : w4.cell? ⟨g, i * 18 + 2, none⟩ = some (.bool ({ r with st := 1, un := -1, ki := 0, ob := 0 }).su) := (HD.out.pw.cell 2 (by decide)).trans rfl
           have kA0 : w4.cell? ⟨A, 0, none⟩ = some (.int .i64 p) := (BA.out.cell 0).trans rfl
           have kA1 : w4.cell? ⟨A, 1, none⟩ = some (.int .i64 c) := (BA.out.cell 1).trans rfl
           have kA2 : w4.cell? ⟨A, 2, none⟩ = some (.int .i64 v) := (BA.out.cell 2).trans rfl
           clear hd ht)
        | (refine wpList_store_pd rfl _ _ _ rfl rfl HD.out 14 (by decide) (.bool true) rfl rfl rfl rfl (by kernel_rfl) ({ r with st := 1, un := -1, ki := 0, ob := 0, pe := true }) rfl ?_
           intro w5 hd ht
           have HD := hid hd
           have HT := hid (HT.out.trans ht)
           have BA := hid (BA.out.turn (by unfold SP; decide) ht.t)
           have cst : w5.cell? ⟨g, i * 18, none⟩ = some (.int .i64 ({ r with st := 1, un := -1, ki := 0, ob := 0, pe := true }).st) := (HD.out.pw.cell 0 (by decide)).trans rfl
           have cpr : w5.cell? ⟨g, i * 18 + 1, none⟩ = some (.int .i64 ({ r with st := 1, un := -1, ki := 0, ob := 0, pe := true }).pr) := (HD.out.pw.cell 1 (by decide)).trans rfl
           have csu : w5.cell? ⟨g, i * 18 + 2, none⟩ = some (.bool ({ r with st := 1, un := -1, ki := 0, ob := 0, pe := true }).su) := (HD.out.pw.cell 2 (by decide)).trans rfl
           have kA0 : w5.cell? ⟨A, 0, none⟩ = some (.int .i64 p) := (BA.out.cell 0).trans rfl
           have kA1 : w5.cell? ⟨A, 1, none⟩ = some (.int .i64 c) := (BA.out.cell 1).trans rfl
           have kA2 : w5.cell? ⟨A, 2, none⟩ = some (.int .i64 v) := (BA.out.cell 2).trans rfl
           clear hd ht))
    refine wp_region_held_drew (S := (fun w' => BoxAt w' A 92 #[.int .i64 p, .int .i64 c, .int .i64 v])) (by kernel_rfl) (BA.out.drew) (fun hHeld => ?_)
    refine wpAnyH_take (i := 0) (oi := { dst := some 26, op := Op.move (Operand.tmp 0), type := 89, pos := "procs.go:141", after := #[], guard := none }) (v := ?_) rfl (by kernel_rfl) (by kernel_rfl) (by kernel_rfl) (fun _ _ _ h => h) (Or.inl ⟨by rfl, ?_⟩) (by assumption) ?_
    rotate_left
    · (intro w hSw; (try dsimp only at hSw); go_simp; try with_reducible rfl)
    simp only [Act.put, List.setIfInBounds_toArray, List.set_cons_zero, List.set_cons_succ]
    refine wpAnyH_take (i := 1) (oi := { dst := some 27, op := Op.move (Operand.tmp 0), type := 89, pos := "procs.go:141", after := #[{ on := 8, ground := Ground.gcOnly Departure.lateStores }], guard := none }) (v := ?_) rfl (by kernel_rfl) (by kernel_rfl) (by kernel_rfl) (fun _ _ _ h => h) (Or.inl ⟨by rfl, ?_⟩) (by assumption) ?_
    rotate_left
    · (intro w hSw; (try dsimp only at hSw); go_simp; try with_reducible rfl)
    simp only [Act.put, List.setIfInBounds_toArray, List.set_cons_zero, List.set_cons_succ]
    refine wpAnyH_take (i := 2) (oi := { dst := some 28, op := Op.fieldAddr 92 (Operand.tmp 2) 1, type := 0, pos := "procs.go:141", after := #[], guard := none }) (v := ?_) rfl (by kernel_rfl) (by kernel_rfl) (by kernel_rfl) (fun _ _ _ h => h) (Or.inl ⟨by rfl, ?_⟩) (by assumption) ?_
    rotate_left
    · (intro w hSw; (try dsimp only at hSw); go_simp; try with_reducible rfl)
    simp only [Act.put, List.setIfInBounds_toArray, List.set_cons_zero, List.set_cons_succ]
    refine wpAnyH_take (i := 3) (oi := { dst := some 29, op := Op.load 3 (Operand.tmp 28), type := 3, pos := "procs.go:141", after := #[{ on := 2, ground := Ground.data }], guard := none }) (v := ?_) rfl (by kernel_rfl) (by kernel_rfl) (by kernel_rfl) (fun _ _ _ h => h) (Or.inl ⟨by rfl, ?_⟩) (by assumption) ?_
    rotate_left
    · (intro w hSw; (try dsimp only at hSw); have zA := hSw; have kA0 : w.cell? ⟨A, 0, none⟩ = some (.int .i64 p) := (zA.cell 0).trans rfl; have kA1 : w.cell? ⟨A, 1, none⟩ = some (.int .i64 c) := (zA.cell 1).trans rfl; have kA2 : w.cell? ⟨A, 2, none⟩ = some (.int .i64 v) := (zA.cell 2).trans rfl; go_simp; try with_reducible rfl)
    simp only [Act.put, List.setIfInBounds_toArray, List.set_cons_zero, List.set_cons_succ]
    refine wpAnyH_take (i := 4) (oi := { dst := some 30, op := Op.fieldAddr 92 (Operand.tmp 2) 2, type := 0, pos := "procs.go:141", after := #[], guard := none }) (v := ?_) rfl (by kernel_rfl) (by kernel_rfl) (by kernel_rfl) (fun _ _ _ h => h) (Or.inl ⟨by rfl, ?_⟩) (by assumption) ?_
    rotate_left
    · (intro w hSw; (try dsimp only at hSw); go_simp; try with_reducible rfl)
    simp only [Act.put, List.setIfInBounds_toArray, List.set_cons_zero, List.set_cons_succ]
    refine wpAnyH_take (i := 5) (oi := { dst := some 31, op := Op.load 3 (Operand.tmp 30), type := 3, pos := "procs.go:141", after := #[{ on := 4, ground := Ground.data }], guard := none }) (v := ?_) rfl (by kernel_rfl) (by kernel_rfl) (by kernel_rfl) (fun _ _ _ h => h) (Or.inl ⟨by rfl, ?_⟩) (by assumption) ?_
    rotate_left
    · (intro w hSw; (try dsimp only at hSw); have zA := hSw; have kA0 : w.cell? ⟨A, 0, none⟩ = some (.int .i64 p) := (zA.cell 0).trans rfl; have kA1 : w.cell? ⟨A, 1, none⟩ = some (.int .i64 c) := (zA.cell 1).trans rfl; have kA2 : w.cell? ⟨A, 2, none⟩ = some (.int .i64 v) := (zA.cell 2).trans rfl; go_simp; try with_reducible rfl)
    simp only [Act.put, List.setIfInBounds_toArray, List.set_cons_zero, List.set_cons_succ]
    refine wpAnyH_take (i := 6) (oi := { dst := some 32, op := Op.nilCheck (Operand.tmp 26), type := 0, pos := "procs.go:141", after := #[{ on := 0, ground := Ground.data }, { on := 0, ground := Ground.phase }, { on := 1, ground := Ground.textOnly Departure.lateStores }, { on := 2, ground := Ground.phase }, { on := 3, ground := Ground.phase }, { on := 4, ground := Ground.textOnly Departure.lateStores }, { on := 5, ground := Ground.textOnly Departure.inlinedCapture }], guard := none }) (v := ?_) rfl (by kernel_rfl) (by kernel_rfl) (by kernel_rfl) (fun _ _ _ h => h) (Or.inl ⟨by rfl, ?_⟩) (by assumption) ?_
    rotate_left
    · (intro w hSw; (try dsimp only at hSw); go_simp; try with_reducible rfl)
    simp only [Act.put, List.setIfInBounds_toArray, List.set_cons_zero, List.set_cons_succ]
    refine wpAnyH_take (i := 7) (oi := { dst := some 33, op := Op.fieldAddr 57 (Operand.tmp 32) 11, type := 0, pos := "procs.go:141", after := #[{ on := 6, ground := Ground.data }, { on := 0, ground := Ground.phase }, { on := 1, ground := Ground.textOnly Departure.lateStores }, { on := 2, ground := Ground.phase }, { on := 3, ground := Ground.phase }, { on := 4, ground := Ground.textOnly Departure.lateStores }, { on := 5, ground := Ground.textOnly Departure.inlinedCapture }], guard := none }) (v := ?_) rfl (by kernel_rfl) (by kernel_rfl) (by kernel_rfl) (fun _ _ _ h => h) (Or.inl ⟨by rfl, ?_⟩) (by assumption) ?_
    rotate_left
    · (intro w hSw; (try dsimp only at hSw); go_simp; try with_reducible rfl)
    simp only [Act.put, List.setIfInBounds_toArray, List.set_cons_zero, List.set_cons_succ]
    refine wpAnyH_ready (rs := [8]) (by kernel_rfl) (by simp) (AllReadyH.cons (o := { dst := none, op := Op.store 3 (Operand.tmp 33) (Operand.tmp 29), type := 0, pos := "procs.go:141", after := #[{ on := 7, ground := Ground.data }, { on := 3, ground := Ground.data }, { on := 0, ground := Ground.phase }, { on := 1, ground := Ground.textOnly Departure.lateStores }, { on := 2, ground := Ground.phase }, { on := 3, ground := Ground.phase }, { on := 4, ground := Ground.textOnly Departure.lateStores }, { on := 5, ground := Ground.textOnly Departure.inlinedCapture }], guard := none }) rfl (fun K9 hK9 => ?_) AllReadyH.nil)
    have HD := hid (PD.drew HD.out)
    have HT := hid (HT.out.trans TwoT.drew)
    have BA := hid BA.out.drew
    refine wp_store_pd _ _ _ rfl HD.out 15 (by decide) (.int .i64 c) rfl rfl rfl rfl (by kernel_rfl) ({ r with st := 1, un := -1, ki := 0, ob := 0, pe := true, co := c }) rfl ?_
    intro w6 hd ht
    have HD := hid hd
    have HT := hid (HT.out.trans ht)
    have BA := hid (BA.out.turn (by unfold SP; decide) ht.t)
    clear hd ht
    refine hK9.out _ _ (BA.out) (fun hHeld9 => ?_)
    clear hK9 K9
    try simp only [Act.put]
    refine wpAnyH_take (i := 9) (oi := { dst := some 34, op := Op.nilCheck (Operand.tmp 27), type := 0, pos := "procs.go:141", after := #[{ on := 1, ground := Ground.data }, { on := 0, ground := Ground.phase }, { on := 1, ground := Ground.phase }, { on := 2, ground := Ground.phase }, { on := 3, ground := Ground.phase }, { on := 4, ground := Ground.phase }, { on := 5, ground := Ground.phase }, { on := 6, ground := Ground.phase }, { on := 7, ground := Ground.phase }, { on := 8, ground := Ground.phase }], guard := none }) (v := ?_) rfl (by kernel_rfl) (by kernel_rfl) (by kernel_rfl) (fun _ _ _ h => h) (Or.inl ⟨by rfl, ?_⟩) (by assumption) ?_
    rotate_left
    · (intro w hSw; (try dsimp only at hSw); go_simp; try with_reducible rfl)
    simp only [Act.put, List.setIfInBounds_toArray, List.set_cons_zero, List.set_cons_succ]
    refine wpAnyH_take (i := 10) (oi := { dst := some 35, op := Op.fieldAddr 57 (Operand.tmp 34) 12, type := 0, pos := "procs.go:141", after := #[{ on := 9, ground := Ground.data }, { on := 0, ground := Ground.phase }, { on := 1, ground := Ground.phase }, { on := 2, ground := Ground.phase }, { on := 3, ground := Ground.phase }, { on := 4, ground := Ground.phase }, { on := 5, ground := Ground.phase }, { on := 6, ground := Ground.phase }, { on := 7, ground := Ground.phase }, { on := 8, ground := Ground.phase }], guard := none }) (v := ?_) rfl (by kernel_rfl) (by kernel_rfl) (by kernel_rfl) (fun _ _ _ h => h) (Or.inl ⟨by rfl, ?_⟩) (by assumption) ?_
    rotate_left
    · (intro w hSw; (try dsimp only at hSw); go_simp; try with_reducible rfl)
    simp only [Act.put, List.setIfInBounds_toArray, List.set_cons_zero, List.set_cons_succ]
    refine wpAnyH_ready (rs := [11]) (by kernel_rfl) (by simp) (AllReadyH.cons (o := { dst := none, op := Op.store 3 (Operand.tmp 35) (Operand.tmp 31), type := 0, pos := "procs.go:141", after := #[{ on := 10, ground := Ground.data }, { on := 5, ground := Ground.data }, { on := 8, ground := Ground.chain }, { on := 0, ground := Ground.phase }, { on := 1, ground := Ground.phase }, { on := 2, ground := Ground.phase }, { on := 3, ground := Ground.phase }, { on := 4, ground := Ground.phase }, { on := 5, ground := Ground.phase }, { on := 6, ground := Ground.phase }, { on := 7, ground := Ground.phase }, { on := 8, ground := Ground.phase }], guard := none }) rfl (fun K12 hK12 => ?_) AllReadyH.nil)
    refine wp_store_pd _ _ _ rfl HD.out 16 (by decide) (.int .i64 v) rfl rfl rfl rfl (by kernel_rfl) ({ r with st := 1, un := -1, ki := 0, ob := 0, pe := true, co := c, va := v }) rfl ?_
    intro w7 hd ht
    have HD := hid hd
    have HT := hid (HT.out.trans ht)
    have BA := hid (BA.out.turn (by unfold SP; decide) ht.t)
    clear hd ht
    refine hK12.out _ _ (BA.out) (fun hHeld12 => ?_)
    clear hK12 K12
    try simp only [Act.put]
    refine wpAnyH_done (by kernel_rfl) ?_ _
    clear hHeld hHeld9 hHeld12
    have HD := hid (show PD w7 base g cap i L P O ({ r with st := 1, un := -1, ki := 0, ob := 0, pe := true, co := c, va := v }) q from HD.out)
    have cst : w7.cell? ⟨g, i * 18, none⟩ = some (.int .i64 ({ r with st := 1, un := -1, ki := 0, ob := 0, pe := true, co := c, va := v }).st) := (HD.out.pw.cell 0 (by decide)).trans rfl
    have cpr : w7.cell? ⟨g, i * 18 + 1, none⟩ = some (.int .i64 ({ r with st := 1, un := -1, ki := 0, ob := 0, pe := true, co := c, va := v }).pr) := (HD.out.pw.cell 1 (by decide)).trans rfl
    have csu : w7.cell? ⟨g, i * 18 + 2, none⟩ = some (.bool ({ r with st := 1, un := -1, ki := 0, ob := 0, pe := true, co := c, va := v }).su) := (HD.out.pw.cell 2 (by decide)).trans rfl
    have kA0 : w7.cell? ⟨A, 0, none⟩ = some (.int .i64 p) := (BA.out.cell 0).trans rfl
    have kA1 : w7.cell? ⟨A, 1, none⟩ = some (.int .i64 c) := (BA.out.cell 1).trans rfl
    have kA2 : w7.cell? ⟨A, 2, none⟩ = some (.int .i64 v) := (BA.out.cell 2).trans rfl
    go_wp2_with fail
    refine wp_region_held_drew (S := (fun w' => BoxAt w' A 92 #[.int .i64 p, .int .i64 c, .int .i64 v])) (by kernel_rfl) (BA.out.drew) (fun hHeld => ?_)
    refine wpAnyH_take (i := 0) (oi := { dst := some 36, op := Op.move (Operand.tmp 0), type := 89, pos := "procs.go:142", after := #[], guard := none }) (v := ?_) rfl (by kernel_rfl) (by kernel_rfl) (by kernel_rfl) (fun _ _ _ h => h) (Or.inl ⟨by rfl, ?_⟩) (by assumption) ?_
    rotate_left
    · (intro w hSw; (try dsimp only at hSw); go_simp; try with_reducible rfl)
    simp only [Act.put, List.setIfInBounds_toArray, List.set_cons_zero, List.set_cons_succ]
    refine wpAnyH_take (i := 1) (oi := { dst := some 37, op := Op.move (Operand.tmp 0), type := 89, pos := "procs.go:142", after := #[{ on := 10, ground := Ground.gcOnly Departure.lateStores }], guard := none }) (v := ?_) rfl (by kernel_rfl) (by kernel_rfl) (by kernel_rfl) (fun _ _ _ h => h) (Or.inl ⟨by rfl, ?_⟩) (by assumption) ?_
    rotate_left
    · (intro w hSw; (try dsimp only at hSw); go_simp; try with_reducible rfl)
    simp only [Act.put, List.setIfInBounds_toArray, List.set_cons_zero, List.set_cons_succ]
    refine wpAnyH_take (i := 2) (oi := { dst := some 38, op := Op.fieldAddr 92 (Operand.tmp 2) 1, type := 0, pos := "procs.go:142", after := #[], guard := none }) (v := ?_) rfl (by kernel_rfl) (by kernel_rfl) (by kernel_rfl) (fun _ _ _ h => h) (Or.inl ⟨by rfl, ?_⟩) (by assumption) ?_
    rotate_left
    · (intro w hSw; (try dsimp only at hSw); go_simp; try with_reducible rfl)
    simp only [Act.put, List.setIfInBounds_toArray, List.set_cons_zero, List.set_cons_succ]
    refine wpAnyH_take (i := 3) (oi := { dst := some 39, op := Op.load 3 (Operand.tmp 38), type := 3, pos := "procs.go:142", after := #[{ on := 2, ground := Ground.data }], guard := none }) (v := ?_) rfl (by kernel_rfl) (by kernel_rfl) (by kernel_rfl) (fun _ _ _ h => h) (Or.inl ⟨by rfl, ?_⟩) (by assumption) ?_
    rotate_left
    · (intro w hSw; (try dsimp only at hSw); have zA := hSw; have kA0 : w.cell? ⟨A, 0, none⟩ = some (.int .i64 p) := (zA.cell 0).trans rfl; have kA1 : w.cell? ⟨A, 1, none⟩ = some (.int .i64 c) := (zA.cell 1).trans rfl; have kA2 : w.cell? ⟨A, 2, none⟩ = some (.int .i64 v) := (zA.cell 2).trans rfl; go_simp; try with_reducible rfl)
    simp only [Act.put, List.setIfInBounds_toArray, List.set_cons_zero, List.set_cons_succ]
    refine wpAnyH_take (i := 4) (oi := { dst := some 40, op := Op.fieldAddr 92 (Operand.tmp 2) 2, type := 0, pos := "procs.go:142", after := #[], guard := none }) (v := ?_) rfl (by kernel_rfl) (by kernel_rfl) (by kernel_rfl) (fun _ _ _ h => h) (Or.inl ⟨by rfl, ?_⟩) (by assumption) ?_
    rotate_left
    · (intro w hSw; (try dsimp only at hSw); go_simp; try with_reducible rfl)
    simp only [Act.put, List.setIfInBounds_toArray, List.set_cons_zero, List.set_cons_succ]
    refine wpAnyH_take (i := 5) (oi := { dst := some 41, op := Op.load 3 (Operand.tmp 40), type := 3, pos := "procs.go:142", after := #[{ on := 4, ground := Ground.data }], guard := none }) (v := ?_) rfl (by kernel_rfl) (by kernel_rfl) (by kernel_rfl) (fun _ _ _ h => h) (Or.inl ⟨by rfl, ?_⟩) (by assumption) ?_
    rotate_left
    · (intro w hSw; (try dsimp only at hSw); have zA := hSw; have kA0 : w.cell? ⟨A, 0, none⟩ = some (.int .i64 p) := (zA.cell 0).trans rfl; have kA1 : w.cell? ⟨A, 1, none⟩ = some (.int .i64 c) := (zA.cell 1).trans rfl; have kA2 : w.cell? ⟨A, 2, none⟩ = some (.int .i64 v) := (zA.cell 2).trans rfl; go_simp; try with_reducible rfl)
    simp only [Act.put, List.setIfInBounds_toArray, List.set_cons_zero, List.set_cons_succ]
    refine wpAnyH_take (i := 6) (oi := { dst := some 42, op := Op.nilCheck (Operand.tmp 36), type := 0, pos := "procs.go:142", after := #[{ on := 0, ground := Ground.data }], guard := none }) (v := ?_) rfl (by kernel_rfl) (by kernel_rfl) (by kernel_rfl) (fun _ _ _ h => h) (Or.inl ⟨by rfl, ?_⟩) (by assumption) ?_
    rotate_left
    · (intro w hSw; (try dsimp only at hSw); go_simp; try with_reducible rfl)
    simp only [Act.put, List.setIfInBounds_toArray, List.set_cons_zero, List.set_cons_succ]
    refine wpAnyH_take (i := 7) (oi := { dst := some 43, op := Op.fieldAddr 57 (Operand.tmp 42) 3, type := 0, pos := "procs.go:142", after := #[{ on := 6, ground := Ground.data }], guard := none }) (v := ?_) rfl (by kernel_rfl) (by kernel_rfl) (by kernel_rfl) (fun _ _ _ h => h) (Or.inl ⟨by rfl, ?_⟩) (by assumption) ?_
    rotate_left
    · (intro w hSw; (try dsimp only at hSw); go_simp; try with_reducible rfl)
    simp only [Act.put, List.setIfInBounds_toArray, List.set_cons_zero, List.set_cons_succ]
    refine wpAnyH_take (i := 8) (oi := { dst := some 44, op := Op.fieldAddr 55 (Operand.tmp 43) 1, type := 0, pos := "procs.go:142", after := #[{ on := 7, ground := Ground.data }], guard := none }) (v := ?_) rfl (by kernel_rfl) (by kernel_rfl) (by kernel_rfl) (fun _ _ _ h => h) (Or.inl ⟨by rfl, ?_⟩) (by assumption) ?_
    rotate_left
    · (intro w hSw; (try dsimp only at hSw); go_simp; try with_reducible rfl)
    simp only [Act.put, List.setIfInBounds_toArray, List.set_cons_zero, List.set_cons_succ]
    refine wpAnyH_take (i := 9) (oi := { dst := some 45, op := Op.indexAddr 53 (Operand.tmp 44) (Operand.const (Value.int IntKind.i64 0)), type := 0, pos := "procs.go:142", after := #[{ on := 8, ground := Ground.data }, { on := 0, ground := Ground.phase }, { on := 1, ground := Ground.textOnly Departure.lateStores }, { on := 2, ground := Ground.phase }, { on := 3, ground := Ground.phase }, { on := 4, ground := Ground.textOnly Departure.lateStores }, { on := 5, ground := Ground.textOnly Departure.inlinedCapture }], guard := none }) (v := ?_) rfl (by kernel_rfl) (by kernel_rfl) (by kernel_rfl) (fun _ _ _ h => h) (Or.inl ⟨by rfl, ?_⟩) (by assumption) ?_
    rotate_left
    · (intro w hSw; (try dsimp only at hSw); go_simp; try with_reducible rfl)
    simp only [Act.put, List.setIfInBounds_toArray, List.set_cons_zero, List.set_cons_succ]
    refine wpAnyH_take (i := 11) (oi := { dst := some 46, op := Op.nilCheck (Operand.tmp 37), type := 0, pos := "procs.go:142", after := #[{ on := 1, ground := Ground.data }], guard := none }) (v := ?_) rfl (by kernel_rfl) (by kernel_rfl) (by kernel_rfl) (fun _ _ _ h => h) (Or.inl ⟨by rfl, ?_⟩) (by assumption) ?_
    rotate_left
    · (intro w hSw; (try dsimp only at hSw); go_simp; try with_reducible rfl)
    simp only [Act.put, List.setIfInBounds_toArray, List.set_cons_zero, List.set_cons_succ]
    refine wpAnyH_take (i := 12) (oi := { dst := some 47, op := Op.fieldAddr 57 (Operand.tmp 46) 3, type := 0, pos := "procs.go:142", after := #[{ on := 11, ground := Ground.data }], guard := none }) (v := ?_) rfl (by kernel_rfl) (by kernel_rfl) (by kernel_rfl) (fun _ _ _ h => h) (Or.inl ⟨by rfl, ?_⟩) (by assumption) ?_
    rotate_left
    · (intro w hSw; (try dsimp only at hSw); go_simp; try with_reducible rfl)
    simp only [Act.put, List.setIfInBounds_toArray, List.set_cons_zero, List.set_cons_succ]
    refine wpAnyH_take (i := 13) (oi := { dst := some 48, op := Op.fieldAddr 55 (Operand.tmp 47) 1, type := 0, pos := "procs.go:142", after := #[{ on := 12, ground := Ground.data }], guard := none }) (v := ?_) rfl (by kernel_rfl) (by kernel_rfl) (by kernel_rfl) (fun _ _ _ h => h) (Or.inl ⟨by rfl, ?_⟩) (by assumption) ?_
    rotate_left
    · (intro w hSw; (try dsimp only at hSw); go_simp; try with_reducible rfl)
    simp only [Act.put, List.setIfInBounds_toArray, List.set_cons_zero, List.set_cons_succ]
    refine wpAnyH_ready (rs := [10]) (by kernel_rfl) (by simp) (AllReadyH.cons (o := { dst := none, op := Op.store 3 (Operand.tmp 45) (Operand.tmp 39), type := 0, pos := "procs.go:142", after := #[{ on := 9, ground := Ground.data }, { on := 3, ground := Ground.data }, { on := 0, ground := Ground.phase }, { on := 1, ground := Ground.textOnly Departure.lateStores }, { on := 2, ground := Ground.phase }, { on := 3, ground := Ground.phase }, { on := 4, ground := Ground.textOnly Departure.lateStores }, { on := 5, ground := Ground.textOnly Departure.inlinedCapture }], guard := none }) rfl (fun K14 hK14 => ?_) AllReadyH.nil)
    have HD := hid (PD.drew HD.out)
    have HT := hid (HT.out.trans TwoT.drew)
    have BA := hid BA.out.drew
    refine wp_store_pd _ _ _ rfl HD.out 4 (by decide) (.int .i64 c) rfl rfl rfl rfl (by kernel_rfl) ({ r with st := 1, un := -1, ki := 0, ob := 0, pe := true, co := c, va := v, r0 := c }) rfl ?_
    intro w8 hd ht
    have HD := hid hd
    have HT := hid (HT.out.trans ht)
    have BA := hid (BA.out.turn (by unfold SP; decide) ht.t)
    clear hd ht
    refine hK14.out _ _ (BA.out) (fun hHeld14 => ?_)
    clear hK14 K14
    try simp only [Act.put]
    refine wpAnyH_take (i := 14) (oi := { dst := some 49, op := Op.indexAddr 53 (Operand.tmp 48) (Operand.const (Value.int IntKind.i64 1)), type := 0, pos := "procs.go:142", after := #[{ on := 13, ground := Ground.data }, { on := 0, ground := Ground.phase }, { on := 1, ground := Ground.phase }, { on := 2, ground := Ground.phase }, { on := 3, ground := Ground.phase }, { on := 4, ground := Ground.phase }, { on := 5, ground := Ground.phase }, { on := 6, ground := Ground.phase }, { on := 7, ground := Ground.phase }, { on := 8, ground := Ground.phase }, { on := 9, ground := Ground.phase }, { on := 10, ground := Ground.phase }], guard := none }) (v := ?_) rfl (by kernel_rfl) (by kernel_rfl) (by kernel_rfl) (fun _ _ _ h => h) (Or.inl ⟨by rfl, ?_⟩) (by assumption) ?_
    rotate_left
    · (intro w hSw; (try dsimp only at hSw); go_simp; try with_reducible rfl)
    simp only [Act.put, List.setIfInBounds_toArray, List.set_cons_zero, List.set_cons_succ]
    refine wpAnyH_ready (rs := [15]) (by kernel_rfl) (by simp) (AllReadyH.cons (o := { dst := none, op := Op.store 3 (Operand.tmp 49) (Operand.tmp 41), type := 0, pos := "procs.go:142", after := #[{ on := 14, ground := Ground.data }, { on := 5, ground := Ground.data }, { on := 10, ground := Ground.chain }, { on := 0, ground := Ground.phase }, { on := 1, ground := Ground.phase }, { on := 2, ground := Ground.phase }, { on := 3, ground := Ground.phase }, { on := 4, ground := Ground.phase }, { on := 5, ground := Ground.phase }, { on := 6, ground := Ground.phase }, { on := 7, ground := Ground.phase }, { on := 8, ground := Ground.phase }, { on := 9, ground := Ground.phase }, { on := 10, ground := Ground.phase }], guard := none }) rfl (fun K16 hK16 => ?_) AllReadyH.nil)
    refine wp_store_pd _ _ _ rfl HD.out 5 (by decide) (.int .i64 v) rfl rfl rfl rfl (by kernel_rfl) ({ r with st := 1, un := -1, ki := 0, ob := 0, pe := true, co := c, va := v, r0 := c, r1 := v }) rfl ?_
    intro w9 hd ht
    have HD := hid hd
    have HT := hid (HT.out.trans ht)
    have BA := hid (BA.out.turn (by unfold SP; decide) ht.t)
    clear hd ht
    refine hK16.out _ _ (BA.out) (fun hHeld16 => ?_)
    clear hK16 K16
    try simp only [Act.put]
    refine wpAnyH_done (by kernel_rfl) ?_ _
    clear hHeld hHeld14 hHeld16
    have HD := hid (show PD w9 base g cap i L P O ({ r with st := 1, un := -1, ki := 0, ob := 0, pe := true, co := c, va := v, r0 := c, r1 := v }) q from HD.out)
    have cst : w9.cell? ⟨g, i * 18, none⟩ = some (.int .i64 ({ r with st := 1, un := -1, ki := 0, ob := 0, pe := true, co := c, va := v, r0 := c, r1 := v }).st) := (HD.out.pw.cell 0 (by decide)).trans rfl
    have cpr : w9.cell? ⟨g, i * 18 + 1, none⟩ = some (.int .i64 ({ r with st := 1, un := -1, ki := 0, ob := 0, pe := true, co := c, va := v, r0 := c, r1 := v }).pr) := (HD.out.pw.cell 1 (by decide)).trans rfl
    have csu : w9.cell? ⟨g, i * 18 + 2, none⟩ = some (.bool ({ r with st := 1, un := -1, ki := 0, ob := 0, pe := true, co := c, va := v, r0 := c, r1 := v }).su) := (HD.out.pw.cell 2 (by decide)).trans rfl
    have kA0 : w9.cell? ⟨A, 0, none⟩ = some (.int .i64 p) := (BA.out.cell 0).trans rfl
    have kA1 : w9.cell? ⟨A, 1, none⟩ = some (.int .i64 c) := (BA.out.cell 1).trans rfl
    have kA2 : w9.cell? ⟨A, 2, none⟩ = some (.int .i64 v) := (BA.out.cell 2).trans rfl
    go_wp2_with fail
    refine (queue_any HD.out).mono ?_
    rintro e wq ⟨rfl, hd, ht⟩
    have HD := hid hd
    have HT := hid (HT.out.trans ht)
    clear hd ht
    go_wp2
    go_ret
    exact ⟨rfl, HD.out, HT.out⟩
  · have hs : goD c v r = ⟨r, false, 1⟩ := by unfold goD; rw [if_neg h0]
    have hb0 : (r.st == 2) = false := by simpa using h0
    rw [hs]
    go_wp2
    go_ret
    exact ⟨rfl, HD.out, HT.out⟩

end Go.Proofs.Ytdanfnbclbiidaa
