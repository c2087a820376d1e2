/-
  The chapter's example of layer 11: it holds.
-/
import Derived.Test.YtdanfnbclbiidaaU2
import Derived.Test.YtdanfnbclbiidaaQAwake
import Derived.Test.YtdanfnbclbiidaaQApi2
import Derived.Test.YtdanfnbclbiidaaQNew
namespace Go.Proofs.Ytdanfnbclbiidaa
open Go.RowKit
set_option linter.unusedVariables false

def eC1 : Pt := { Pt.zero with pc := [⟨0, 0, 0, 0, false⟩] }
def eP0 : Pa := { Pa.zero with pr := [Px.dorm 0] }
def eP1 : Pa := { Pa.zero with pr := [{ Px.dorm 0 with st := 1 }], nx := 1 }
def eP2 : Pa := { Pa.zero with pr := [{ Px.dorm 0 with st := 2, ki := 1, un := 15, ca := 7 }], nx := 1 }
theorem e_new : newP eC1 = [Px.dorm 0] := rfl
theorem e_start : startP eC1 eP0 0 0 = (eP1, 0) := by
  simp [startP, deedP, startD, eC1, eP0, eP1, Pt.zero, Pa.zero, Px.dorm, Dd.out, Dd.nxt, ex_w1]
theorem e_delay : delayP eP1 0 5 10 = (eP2, 6) := by
  simp [delayP, blockP, deedP, blockD, eP1, eP2, Pa.zero, Px.dorm, Dd.out, Dd.nxt, ex_w15]
theorem e_w14 : (wakeP eC1 eP2 14).pr.length = 1 ∧ ((wakeP eC1 eP2 14).pr.getD 0 Px.zero).st = 2 := ⟨rfl, rfl⟩
theorem e_w15 : (wakeP eC1 eP2 15).pr.length = 1 ∧ ((wakeP eC1 eP2 15).pr.getD 0 Px.zero).st = 1 ∧ ((wakeP eC1 eP2 15).pr.getD 0 Px.zero).pe = true := ⟨rfl, rfl, rfl⟩

set_option maxRecDepth 100000 in
set_option maxHeartbeats 1600000 in
theorem uawake_any (w : World) : Calls Try.prog 9 #[] w fun e w' => e = .returned (.bool true) ∧ Below w.heap.size w w' := by
  obtain ⟨w0, hw0⟩ : ∃ w0, w.alloc (.cells #[.int .i64 0, .int .i64 0, .int .i64 0, .int .i64 0, .bool false] 60) = w0 := ⟨_, rfl⟩
  obtain ⟨qc, hqc⟩ : ∃ qc : Pv, qc = { Pv.zero with v2 := ⟨some ⟨w.heap.size, 0, none⟩, 1, 1⟩ } := ⟨_, rfl⟩
  have hB0 : Below w.heap.size w w0 := by rw [← hw0]; exact (Below.refl _ _).alloc (Nat.le_refl _) _
  have hbx : BoxAt w0 w.heap.size 60 #[.int .i64 0, .int .i64 0, .int .i64 0, .int .i64 0, .bool false] := by rw [← hw0]; exact BoxAt.new w _ _
  have hAt : PtAt w0 qc eC1 := by
    subst hqc
    refine ⟨rfl, SeesC.nil _ _, ?_, rfl, SeesC.nil _ _, SeesC.nil _ _, rfl, Sees.nil _ _, Sees.nil _ _, rfl, Sees.nil _ _⟩
    refine .inr ⟨⟨w.heap.size, 0, none⟩, 1, rfl, by simp [eC1], by decide, fun i hi j hj => ?_⟩
    have hi0 : i = 0 := by simp [eC1] at hi; omega
    subst hi0
    rw [add_none, Nat.zero_mul, Nat.zero_add, Nat.zero_add, hbx.cell]
    match j, hj with
    | 0, _ => rfl
    | 1, _ => rfl
    | 2, _ => rfl
    | 3, _ => rfl
    | 4, _ => rfl
    | j + 5, h => exact absurd h (by omega)
  have HAt := hid hAt
  have HB0 := hid hB0
  have HQc := hid hqc
  have HZ0 := hid (show w.heap.size ≤ w0.heap.size by rw [← hw0]; simp)
  have HW0 := hid hw0
  clear hAt hB0 hbx hw0 hqc
  go_enter Try.func9, Try.ntmps9
  go_wp2_with (first
    | (refine wpList_new rfl 28 rfl _ Try.zeroPv ?_
       rw [HW0.out]
       intro w1 b1 h1 z1
       have CB := hid b1
       have HBc := hid h1
       clear b1 h1)
    | (refine wpList_store_whole rfl 28 _ _ rfl rfl w0.heap.size rfl (Pv.cells qc) (by rw [HQc.out]; rfl) _ _ CB.out rfl Try.infoPv (Pv.one _) ?_
       intro w2 b g z
       have CB := hid b
       have HBc := hid (HBc.out.trans (grown_below g (Nat.le_refl _) (by omega)))
       have hsz : w0.heap.size + 1 ≤ w2.heap.size := by omega
       clear b g)
    | fail)
  have HBc := hid HBc.out.drew
  have CB := hid (BoxAt.drew CB.out)
  have hds : w2.drew.heap.size = w2.heap.size := rfl
  have hsz2 : w0.heap.size + 1 ≤ w2.drew.heap.size := by omega
  clear hds hsz z1 z
  refine wp_region_held_drew (S := (fun W => BoxAt W w0.heap.size 28 (Pv.cells qc).toArray)) (by kernel_rfl) (CB.out) (fun hHeld => ?_)
  refine wpAnyH_take (i := 0) (oi := { dst := some 11, op := Op.load 28 (Operand.tmp 1), type := 28, pos := "law.go:17", after := #[], guard := none }) (v := ?_) rfl (by kernel_rfl) (by kernel_rfl) (by kernel_rfl) (fun _ _ _ h => h) (Or.inl ⟨by rfl, ?_⟩) (by assumption) ?_
  rotate_left
  · (intro W hSw; refine box_yields 28 (.tmp 1) ?_ w0.heap.size ?_ (Pv.cells qc) 28 _ Try.underlying28 Try.infoPv hSw <;> rfl)
  simp only [Act.put, List.setIfInBounds_toArray, List.set_cons_zero, List.set_cons_succ]
  refine wpAnyH_take (i := 1) (oi := { dst := some 12, op := Op.load 28 (Operand.tmp 1), type := 28, pos := "law.go:17", after := #[], guard := none }) (v := ?_) rfl (by kernel_rfl) (by kernel_rfl) (by kernel_rfl) (fun _ _ _ h => h) (Or.inl ⟨by rfl, ?_⟩) (by assumption) ?_
  rotate_left
  · (intro W hSw; refine box_yields 28 (.tmp 1) ?_ w0.heap.size ?_ (Pv.cells qc) 28 _ Try.underlying28 Try.infoPv hSw <;> rfl)
  simp only [Act.put, List.setIfInBounds_toArray, List.set_cons_zero, List.set_cons_succ]
  refine wpAnyH_ready (rs := [2, 8]) (by kernel_rfl) (by simp) (AllReadyH.cons (o := { dst := some 13, op := Op.call { callee := Callee.value (Operand.func 24), args := #[Operand.tmp 12], argTypes := #[28] }, type := 29, pos := "law.go:17", after := #[{ on := 1, ground := Ground.data }], guard := none }) rfl (fun K3 hK3 => ?b3_2) (AllReadyH.cons (o := { dst := some 2, op := Op.alloc 39, type := 0, pos := "law.go:17", after := #[], guard := none }) rfl (fun K3 hK3 => ?b3_8) AllReadyH.nil))
  case' b3_2 =>
    go_simp
    refine (new_any (HAt.out.below HBc.out) (by simp [eC1])).mono ?_
    rintro e xN ⟨u, rfl, ho, hb⟩
    rw [e_new] at ho
    obtain ⟨g0, cp0, rfl, hg0, hg1, _, _⟩ := OP.form ho (by simp)
    have HPa := hid (show PaAt xN { PaV.zero with pr := ⟨some ⟨g0, 0, none⟩, 1, cp0⟩ } eP0 from ⟨rfl, rfl, rfl, Sees.nil _ _, ho.sees, LBd.nil _, LBf.nil _, LSe.nil _, LEv.nil _, SeesSp.nil _, LQu.nil _, rfl, Sees.nil _ _, rfl, Sees.nil _ _⟩)
    have CB := hid (CB.out.belowAll hb)
    have HBc := hid (HBc.out.trans (hb.mono (by omega)))
    have hzxN : w2.drew.heap.size ≤ xN.heap.size := hb.size
    clear ho hb
    refine hK3.out _ _ (CB.out) (fun hHeld3 => ?_)
    clear hK3 K3
    try simp only [Act.put, List.setIfInBounds_toArray, List.set_cons_zero, List.set_cons_succ]
    refine wpAnyH_take (i := 3) (oi := { dst := some 14, op := Op.build 39 #[(4, Operand.tmp 13)], type := 39, pos := "law.go:17", after := #[{ on := 2, ground := Ground.data }], guard := none }) (v := ?_) rfl (by kernel_rfl) (by kernel_rfl) (by kernel_rfl) (fun _ _ _ h => h) (Or.inl ⟨by rfl, ?_⟩) (by assumption) ?_
    rotate_left
    · (intro w hSw; (try dsimp only at hSw); go_simp; try with_reducible rfl)
    simp only [Act.put, List.setIfInBounds_toArray, List.set_cons_zero, List.set_cons_succ]
    refine wpAnyH_ready (rs := [4, 8]) (by kernel_rfl) (by simp) (AllReadyH.cons (o := { dst := some 15, op := Op.call { callee := Callee.value (Operand.func 23), args := #[Operand.tmp 11, Operand.tmp 14, Operand.const (Value.int IntKind.i64 0), Operand.const (Value.int IntKind.i64 0)], argTypes := #[28, 39, 3, 3] }, type := 48, pos := "law.go:17", after := #[{ on := 0, ground := Ground.data }, { on := 3, ground := Ground.data }, { on := 2, ground := Ground.chain }], guard := none }) rfl (fun K5 hK5 => ?b5_4) (AllReadyH.cons (o := { dst := some 2, op := Op.alloc 39, type := 0, pos := "law.go:17", after := #[], guard := none }) rfl (fun K5 hK5 => ?b5_8) AllReadyH.nil))
    case' b5_4 =>
      go_simp
      refine (start_api (qc := qc) (q := { PaV.zero with pr := ⟨some ⟨g0, 0, none⟩, 1, cp0⟩ }) (c := eP0) (i := 0) (now := 0) (HAt.out.below HBc.out) HPa.out (ex_small _ _ (by simp))).mono ?_
      rintro e xT ⟨q1, rfl, ho, hb⟩
      rw [e_start] at ho
      have HO1 := hid ho
      have CB := hid (CB.out.belowAll hb)
      have HBc := hid (HBc.out.trans (hb.mono (by omega)))
      have hzxT : xN.heap.size ≤ xT.heap.size := hb.size
      clear ho hb HPa
      refine hK5.out _ _ (CB.out) (fun hHeld5 => ?_)
      clear hK5 K5
      try simp only [Act.put, List.setIfInBounds_toArray, List.set_cons_zero, List.set_cons_succ]
      refine wpAnyH_take (i := 5) (oi := { dst := some 10, op := Op.move (Operand.tmp 15), type := 48, pos := "law.go:17", after := #[{ on := 4, ground := Ground.data }], guard := none }) (v := ?_) rfl (by kernel_rfl) (by kernel_rfl) (by kernel_rfl) (fun _ _ _ h => h) (Or.inl ⟨by rfl, ?_⟩) (by assumption) ?_
      rotate_left
      · (intro w hSw; (try dsimp only at hSw); go_simp; try with_reducible rfl)
      simp only [Act.put, List.setIfInBounds_toArray, List.set_cons_zero, List.set_cons_succ]
      refine wpAnyH_take (i := 6) (oi := { dst := some 16, op := Op.extract (Operand.tmp 10) 0, type := 39, pos := "law.go:17", after := #[{ on := 5, ground := Ground.data }], guard := none }) (v := ?_) rfl (by kernel_rfl) (by kernel_rfl) (by kernel_rfl) (fun _ _ _ h => h) (Or.inl ⟨by rfl, ?_⟩) (by assumption) ?_
      rotate_left
      · (intro w hSw; (try dsimp only at hSw); go_simp; try with_reducible rfl)
      simp only [Act.put, List.setIfInBounds_toArray, List.set_cons_zero, List.set_cons_succ]
      refine wpAnyH_take (i := 7) (oi := { dst := some 17, op := Op.extract (Operand.tmp 10) 1, type := 3, pos := "law.go:17", after := #[{ on := 5, ground := Ground.data }, { on := 9, ground := Ground.gcOnly Departure.lateStores }], guard := none }) (v := ?_) rfl (by kernel_rfl) (by kernel_rfl) (by kernel_rfl) (fun _ _ _ h => h) (Or.inl ⟨by rfl, ?_⟩) (by assumption) ?_
      rotate_left
      · (intro w hSw; (try dsimp only at hSw); go_simp; try with_reducible rfl)
      simp only [Act.put, List.setIfInBounds_toArray, List.set_cons_zero, List.set_cons_succ]
      refine wpAnyH_ready (rs := [8]) (by kernel_rfl) (by simp) (AllReadyH.cons (o := { dst := some 2, op := Op.alloc 39, type := 0, pos := "law.go:17", after := #[], guard := none }) rfl (fun K9 hK9 => ?_) AllReadyH.nil)
      refine wp_new 39 rfl _ Try.zeroPa ?_
      intro xA bx hb hz
      have P2 := hid (show BoxAt xA xT.heap.size 39 (PaV.cells PaV.zero).toArray from bx)
      have CB := hid (CB.out.belowAll hb)
      have HBc := hid (HBc.out.trans (hb.mono (by omega)))
      have hzxA : xT.heap.size + 1 ≤ xA.heap.size := by omega
      have HO1 := hid (HO1.out.below hb)
      clear bx hb hz
      refine hK9.out _ _ (CB.out) (fun hHeld9 => ?_)
      clear hK9 K9
      try simp only [Act.put, List.setIfInBounds_toArray, List.set_cons_zero, List.set_cons_succ]
      refine wpAnyH_ready (rs := [9]) (by kernel_rfl) (by simp) (AllReadyH.cons (o := { dst := none, op := Op.store 39 (Operand.tmp 2) (Operand.tmp 16), type := 0, pos := "law.go:17", after := #[{ on := 8, ground := Ground.data }, { on := 6, ground := Ground.data }, { on := 4, ground := Ground.chain }, { on := 0, ground := Ground.phase }, { on := 1, ground := Ground.phase }, { on := 2, ground := Ground.phase }, { on := 3, ground := Ground.phase }, { on := 4, ground := Ground.phase }, { on := 5, ground := Ground.phase }, { on := 6, ground := Ground.phase }, { on := 7, ground := Ground.textOnly Departure.lateStores }, { on := 8, ground := Ground.phase }], guard := none }) rfl (fun K10 hK10 => ?_) AllReadyH.nil)
      refine wp_store_whole 39 _ _ rfl xT.heap.size rfl (PaV.cells q1) rfl _ _ P2.out rfl Try.infoPa (PaV.one _) ?_
      intro xS bx gr hz
      have ht := Turns.grown (S := fun t => t = 39) P2.out bx rfl gr
      have P2 := hid (show BoxAt xS xT.heap.size 39 (PaV.cells q1).toArray from bx)
      have HO1 := hid (HO1.out.turn ht)
      have CB := hid (CB.out.grown gr (fun e => by have := Option.some.inj e; omega))
      have HBc := hid (HBc.out.trans (grown_below gr (by omega) (by omega)))
      have hzxS : xA.heap.size ≤ xS.heap.size := by omega
      have hpxS : w0.heap.size + 1 ≤ xT.heap.size ∧ xT.heap.size < xS.heap.size := by have := P2.out.lt; omega
      clear bx gr hz ht
      refine hK10.out _ _ (CB.out) (fun hHeld10 => ?_)
      clear hK10 K10
      try simp only [Act.put]
      refine wpAnyH_take (i := 10) (oi := { dst := some 3, op := Op.assign (Operand.tmp 17), type := 3, pos := "law.go:17", after := #[{ on := 7, ground := Ground.data }, { on := 9, ground := Ground.chain }, { on := 0, ground := Ground.phase }, { on := 1, ground := Ground.phase }, { on := 2, ground := Ground.phase }, { on := 3, ground := Ground.phase }, { on := 4, ground := Ground.phase }, { on := 5, ground := Ground.phase }, { on := 6, ground := Ground.phase }, { on := 7, ground := Ground.phase }, { on := 8, ground := Ground.phase }, { on := 9, ground := Ground.phase }], guard := none }) (v := ?_) rfl (by kernel_rfl) (by kernel_rfl) (by kernel_rfl) (fun _ _ _ h => h) (Or.inl ⟨by rfl, ?_⟩) (by assumption) ?_
      rotate_left
      · (intro w hSw; (try dsimp only at hSw); go_simp; try with_reducible rfl)
      simp only [Act.put, List.setIfInBounds_toArray, List.set_cons_zero, List.set_cons_succ]
      refine wpAnyH_done (by kernel_rfl) ?_ _
      clear hHeld hHeld3 hHeld5 hHeld9 hHeld10
      clear hzxN hzxA hzxT hzxS
      generalize xT.heap.size = PBa at *
    case' b5_8 =>
      refine wp_new 39 rfl _ Try.zeroPa ?_
      intro xA bx hb hz
      have P2 := hid (show BoxAt xA xN.heap.size 39 (PaV.cells PaV.zero).toArray from bx)
      have CB := hid (CB.out.belowAll hb)
      have HBc := hid (HBc.out.trans (hb.mono (by omega)))
      have hzxA : xN.heap.size + 1 ≤ xA.heap.size := by omega
      have HPa := hid (HPa.out.below hb)
      clear bx hb hz
      refine hK5.out _ _ (CB.out) (fun hHeld5 => ?_)
      clear hK5 K5
      try simp only [Act.put, List.setIfInBounds_toArray, List.set_cons_zero, List.set_cons_succ]
      refine wpAnyH_ready (rs := [4]) (by kernel_rfl) (by simp) (AllReadyH.cons (o := { dst := some 15, op := Op.call { callee := Callee.value (Operand.func 23), args := #[Operand.tmp 11, Operand.tmp 14, Operand.const (Value.int IntKind.i64 0), Operand.const (Value.int IntKind.i64 0)], argTypes := #[28, 39, 3, 3] }, type := 48, pos := "law.go:17", after := #[{ on := 0, ground := Ground.data }, { on := 3, ground := Ground.data }, { on := 2, ground := Ground.chain }], guard := none }) rfl (fun K12 hK12 => ?_) AllReadyH.nil)
      go_simp
      refine (start_api (qc := qc) (q := { PaV.zero with pr := ⟨some ⟨g0, 0, none⟩, 1, cp0⟩ }) (c := eP0) (i := 0) (now := 0) (HAt.out.below HBc.out) HPa.out (ex_small _ _ (by simp))).mono ?_
      rintro e xT ⟨q1, rfl, ho, hb⟩
      rw [e_start] at ho
      have HO1 := hid ho
      have CB := hid (CB.out.belowAll hb)
      have HBc := hid (HBc.out.trans (hb.mono (by omega)))
      have hzxT : xA.heap.size ≤ xT.heap.size := hb.size
      have P2 := hid (P2.out.belowAll hb)
      clear ho hb HPa
      refine hK12.out _ _ (CB.out) (fun hHeld12 => ?_)
      clear hK12 K12
      try simp only [Act.put, List.setIfInBounds_toArray, List.set_cons_zero, List.set_cons_succ]
      refine wpAnyH_take (i := 5) (oi := { dst := some 10, op := Op.move (Operand.tmp 15), type := 48, pos := "law.go:17", after := #[{ on := 4, ground := Ground.data }], guard := none }) (v := ?_) rfl (by kernel_rfl) (by kernel_rfl) (by kernel_rfl) (fun _ _ _ h => h) (Or.inl ⟨by rfl, ?_⟩) (by assumption) ?_
      rotate_left
      · (intro w hSw; (try dsimp only at hSw); go_simp; try with_reducible rfl)
      simp only [Act.put, List.setIfInBounds_toArray, List.set_cons_zero, List.set_cons_succ]
      refine wpAnyH_take (i := 6) (oi := { dst := some 16, op := Op.extract (Operand.tmp 10) 0, type := 39, pos := "law.go:17", after := #[{ on := 5, ground := Ground.data }], guard := none }) (v := ?_) rfl (by kernel_rfl) (by kernel_rfl) (by kernel_rfl) (fun _ _ _ h => h) (Or.inl ⟨by rfl, ?_⟩) (by assumption) ?_
      rotate_left
      · (intro w hSw; (try dsimp only at hSw); go_simp; try with_reducible rfl)
      simp only [Act.put, List.setIfInBounds_toArray, List.set_cons_zero, List.set_cons_succ]
      refine wpAnyH_take (i := 7) (oi := { dst := some 17, op := Op.extract (Operand.tmp 10) 1, type := 3, pos := "law.go:17", after := #[{ on := 5, ground := Ground.data }, { on := 9, ground := Ground.gcOnly Departure.lateStores }], guard := none }) (v := ?_) rfl (by kernel_rfl) (by kernel_rfl) (by kernel_rfl) (fun _ _ _ h => h) (Or.inl ⟨by rfl, ?_⟩) (by assumption) ?_
      rotate_left
      · (intro w hSw; (try dsimp only at hSw); go_simp; try with_reducible rfl)
      simp only [Act.put, List.setIfInBounds_toArray, List.set_cons_zero, List.set_cons_succ]
      refine wpAnyH_ready (rs := [9]) (by kernel_rfl) (by simp) (AllReadyH.cons (o := { dst := none, op := Op.store 39 (Operand.tmp 2) (Operand.tmp 16), type := 0, pos := "law.go:17", after := #[{ on := 8, ground := Ground.data }, { on := 6, ground := Ground.data }, { on := 4, ground := Ground.chain }, { on := 0, ground := Ground.phase }, { on := 1, ground := Ground.phase }, { on := 2, ground := Ground.phase }, { on := 3, ground := Ground.phase }, { on := 4, ground := Ground.phase }, { on := 5, ground := Ground.phase }, { on := 6, ground := Ground.phase }, { on := 7, ground := Ground.textOnly Departure.lateStores }, { on := 8, ground := Ground.phase }], guard := none }) rfl (fun K16 hK16 => ?_) AllReadyH.nil)
      refine wp_store_whole 39 _ _ rfl xN.heap.size rfl (PaV.cells q1) rfl _ _ P2.out rfl Try.infoPa (PaV.one _) ?_
      intro xS bx gr hz
      have ht := Turns.grown (S := fun t => t = 39) P2.out bx rfl gr
      have P2 := hid (show BoxAt xS xN.heap.size 39 (PaV.cells q1).toArray from bx)
      have HO1 := hid (HO1.out.turn ht)
      have CB := hid (CB.out.grown gr (fun e => by have := Option.some.inj e; omega))
      have HBc := hid (HBc.out.trans (grown_below gr (by omega) (by omega)))
      have hzxS : xT.heap.size ≤ xS.heap.size := by omega
      have hpxS : w0.heap.size + 1 ≤ xN.heap.size ∧ xN.heap.size < xS.heap.size := by have := P2.out.lt; omega
      clear bx gr hz ht
      refine hK16.out _ _ (CB.out) (fun hHeld16 => ?_)
      clear hK16 K16
      try simp only [Act.put]
      refine wpAnyH_take (i := 10) (oi := { dst := some 3, op := Op.assign (Operand.tmp 17), type := 3, pos := "law.go:17", after := #[{ on := 7, ground := Ground.data }, { on := 9, ground := Ground.chain }, { on := 0, ground := Ground.phase }, { on := 1, ground := Ground.phase }, { on := 2, ground := Ground.phase }, { on := 3, ground := Ground.phase }, { on := 4, ground := Ground.phase }, { on := 5, ground := Ground.phase }, { on := 6, ground := Ground.phase }, { on := 7, ground := Ground.phase }, { on := 8, ground := Ground.phase }, { on := 9, ground := Ground.phase }], guard := none }) (v := ?_) rfl (by kernel_rfl) (by kernel_rfl) (by kernel_rfl) (fun _ _ _ h => h) (Or.inl ⟨by rfl, ?_⟩) (by assumption) ?_
      rotate_left
      · (intro w hSw; (try dsimp only at hSw); go_simp; try with_reducible rfl)
      simp only [Act.put, List.setIfInBounds_toArray, List.set_cons_zero, List.set_cons_succ]
      refine wpAnyH_done (by kernel_rfl) ?_ _
      clear hHeld hHeld3 hHeld5 hHeld12 hHeld16
      clear hzxN hzxA hzxT hzxS
      generalize xN.heap.size = PBa at *
  case' b3_8 =>
    refine wp_new 39 rfl _ Try.zeroPa ?_
    intro xA bx hb hz
    have P2 := hid (show BoxAt xA w2.drew.heap.size 39 (PaV.cells PaV.zero).toArray from bx)
    have CB := hid (CB.out.belowAll hb)
    have HBc := hid (HBc.out.trans (hb.mono (by omega)))
    have hzxA : w2.drew.heap.size + 1 ≤ xA.heap.size := by omega
    clear bx hb hz
    refine hK3.out _ _ (CB.out) (fun hHeld3 => ?_)
    clear hK3 K3
    try simp only [Act.put, List.setIfInBounds_toArray, List.set_cons_zero, List.set_cons_succ]
    refine wpAnyH_ready (rs := [2]) (by kernel_rfl) (by simp) (AllReadyH.cons (o := { dst := some 13, op := Op.call { callee := Callee.value (Operand.func 24), args := #[Operand.tmp 12], argTypes := #[28] }, type := 29, pos := "law.go:17", after := #[{ on := 1, ground := Ground.data }], guard := none }) rfl (fun K18 hK18 => ?_) AllReadyH.nil)
    go_simp
    refine (new_any (HAt.out.below HBc.out) (by simp [eC1])).mono ?_
    rintro e xN ⟨u, rfl, ho, hb⟩
    rw [e_new] at ho
    obtain ⟨g0, cp0, rfl, hg0, hg1, _, _⟩ := OP.form ho (by simp)
    have HPa := hid (show PaAt xN { PaV.zero with pr := ⟨some ⟨g0, 0, none⟩, 1, cp0⟩ } eP0 from ⟨rfl, rfl, rfl, Sees.nil _ _, ho.sees, LBd.nil _, LBf.nil _, LSe.nil _, LEv.nil _, SeesSp.nil _, LQu.nil _, rfl, Sees.nil _ _, rfl, Sees.nil _ _⟩)
    have CB := hid (CB.out.belowAll hb)
    have HBc := hid (HBc.out.trans (hb.mono (by omega)))
    have hzxN : xA.heap.size ≤ xN.heap.size := hb.size
    have P2 := hid (P2.out.belowAll hb)
    clear ho hb
    refine hK18.out _ _ (CB.out) (fun hHeld18 => ?_)
    clear hK18 K18
    try simp only [Act.put, List.setIfInBounds_toArray, List.set_cons_zero, List.set_cons_succ]
    refine wpAnyH_take (i := 3) (oi := { dst := some 14, op := Op.build 39 #[(4, Operand.tmp 13)], type := 39, pos := "law.go:17", after := #[{ on := 2, ground := Ground.data }], guard := none }) (v := ?_) rfl (by kernel_rfl) (by kernel_rfl) (by kernel_rfl) (fun _ _ _ h => h) (Or.inl ⟨by rfl, ?_⟩) (by assumption) ?_
    rotate_left
    · (intro w hSw; (try dsimp only at hSw); go_simp; try with_reducible rfl)
    simp only [Act.put, List.setIfInBounds_toArray, List.set_cons_zero, List.set_cons_succ]
    refine wpAnyH_ready (rs := [4]) (by kernel_rfl) (by simp) (AllReadyH.cons (o := { dst := some 15, op := Op.call { callee := Callee.value (Operand.func 23), args := #[Operand.tmp 11, Operand.tmp 14, Operand.const (Value.int IntKind.i64 0), Operand.const (Value.int IntKind.i64 0)], argTypes := #[28, 39, 3, 3] }, type := 48, pos := "law.go:17", after := #[{ on := 0, ground := Ground.data }, { on := 3, ground := Ground.data }, { on := 2, ground := Ground.chain }], guard := none }) rfl (fun K20 hK20 => ?_) AllReadyH.nil)
    go_simp
    refine (start_api (qc := qc) (q := { PaV.zero with pr := ⟨some ⟨g0, 0, none⟩, 1, cp0⟩ }) (c := eP0) (i := 0) (now := 0) (HAt.out.below HBc.out) HPa.out (ex_small _ _ (by simp))).mono ?_
    rintro e xT ⟨q1, rfl, ho, hb⟩
    rw [e_start] at ho
    have HO1 := hid ho
    have CB := hid (CB.out.belowAll hb)
    have HBc := hid (HBc.out.trans (hb.mono (by omega)))
    have hzxT : xN.heap.size ≤ xT.heap.size := hb.size
    have P2 := hid (P2.out.belowAll hb)
    clear ho hb HPa
    refine hK20.out _ _ (CB.out) (fun hHeld20 => ?_)
    clear hK20 K20
    try simp only [Act.put, List.setIfInBounds_toArray, List.set_cons_zero, List.set_cons_succ]
    refine wpAnyH_take (i := 5) (oi := { dst := some 10, op := Op.move (Operand.tmp 15), type := 48, pos := "law.go:17", after := #[{ on := 4, ground := Ground.data }], guard := none }) (v := ?_) rfl (by kernel_rfl) (by kernel_rfl) (by kernel_rfl) (fun _ _ _ h => h) (Or.inl ⟨by rfl, ?_⟩) (by assumption) ?_
    rotate_left
    · (intro w hSw; (try dsimp only at hSw); go_simp; try with_reducible rfl)
    simp only [Act.put, List.setIfInBounds_toArray, List.set_cons_zero, List.set_cons_succ]
    refine wpAnyH_take (i := 6) (oi := { dst := some 16, op := Op.extract (Operand.tmp 10) 0, type := 39, pos := "law.go:17", after := #[{ on := 5, ground := Ground.data }], guard := none }) (v := ?_) rfl (by kernel_rfl) (by kernel_rfl) (by kernel_rfl) (fun _ _ _ h => h) (Or.inl ⟨by rfl, ?_⟩) (by assumption) ?_
    rotate_left
    · (intro w hSw; (try dsimp only at hSw); go_simp; try with_reducible rfl)
    simp only [Act.put, List.setIfInBounds_toArray, List.set_cons_zero, List.set_cons_succ]
    refine wpAnyH_take (i := 7) (oi := { dst := some 17, op := Op.extract (Operand.tmp 10) 1, type := 3, pos := "law.go:17", after := #[{ on := 5, ground := Ground.data }, { on := 9, ground := Ground.gcOnly Departure.lateStores }], guard := none }) (v := ?_) rfl (by kernel_rfl) (by kernel_rfl) (by kernel_rfl) (fun _ _ _ h => h) (Or.inl ⟨by rfl, ?_⟩) (by assumption) ?_
    rotate_left
    · (intro w hSw; (try dsimp only at hSw); go_simp; try with_reducible rfl)
    simp only [Act.put, List.setIfInBounds_toArray, List.set_cons_zero, List.set_cons_succ]
    refine wpAnyH_ready (rs := [9]) (by kernel_rfl) (by simp) (AllReadyH.cons (o := { dst := none, op := Op.store 39 (Operand.tmp 2) (Operand.tmp 16), type := 0, pos := "law.go:17", after := #[{ on := 8, ground := Ground.data }, { on := 6, ground := Ground.data }, { on := 4, ground := Ground.chain }, { on := 0, ground := Ground.phase }, { on := 1, ground := Ground.phase }, { on := 2, ground := Ground.phase }, { on := 3, ground := Ground.phase }, { on := 4, ground := Ground.phase }, { on := 5, ground := Ground.phase }, { on := 6, ground := Ground.phase }, { on := 7, ground := Ground.textOnly Departure.lateStores }, { on := 8, ground := Ground.phase }], guard := none }) rfl (fun K24 hK24 => ?_) AllReadyH.nil)
    refine wp_store_whole 39 _ _ rfl w2.drew.heap.size rfl (PaV.cells q1) rfl _ _ P2.out rfl Try.infoPa (PaV.one _) ?_
    intro xS bx gr hz
    have ht := Turns.grown (S := fun t => t = 39) P2.out bx rfl gr
    have P2 := hid (show BoxAt xS w2.drew.heap.size 39 (PaV.cells q1).toArray from bx)
    have HO1 := hid (HO1.out.turn ht)
    have CB := hid (CB.out.grown gr (fun e => by have := Option.some.inj e; omega))
    have HBc := hid (HBc.out.trans (grown_below gr (by omega) (by omega)))
    have hzxS : xT.heap.size ≤ xS.heap.size := by omega
    have hpxS : w0.heap.size + 1 ≤ w2.drew.heap.size ∧ w2.drew.heap.size < xS.heap.size := by have := P2.out.lt; omega
    clear bx gr hz ht
    refine hK24.out _ _ (CB.out) (fun hHeld24 => ?_)
    clear hK24 K24
    try simp only [Act.put]
    refine wpAnyH_take (i := 10) (oi := { dst := some 3, op := Op.assign (Operand.tmp 17), type := 3, pos := "law.go:17", after := #[{ on := 7, ground := Ground.data }, { on := 9, ground := Ground.chain }, { on := 0, ground := Ground.phase }, { on := 1, ground := Ground.phase }, { on := 2, ground := Ground.phase }, { on := 3, ground := Ground.phase }, { on := 4, ground := Ground.phase }, { on := 5, ground := Ground.phase }, { on := 6, ground := Ground.phase }, { on := 7, ground := Ground.phase }, { on := 8, ground := Ground.phase }, { on := 9, ground := Ground.phase }], guard := none }) (v := ?_) rfl (by kernel_rfl) (by kernel_rfl) (by kernel_rfl) (fun _ _ _ h => h) (Or.inl ⟨by rfl, ?_⟩) (by assumption) ?_
    rotate_left
    · (intro w hSw; (try dsimp only at hSw); go_simp; try with_reducible rfl)
    simp only [Act.put, List.setIfInBounds_toArray, List.set_cons_zero, List.set_cons_succ]
    refine wpAnyH_done (by kernel_rfl) ?_ _
    clear hHeld hHeld3 hHeld18 hHeld20 hHeld24
    clear hzxN hzxA hzxT hzxS
    generalize hPBe : w2.drew.heap.size = PBa at *
    rw [show w2.heap.size = PBa from hPBe]
    clear hPBe
  all_goals
    have HB := hid HBc.out
    obtain ⟨hPB1, hPB2⟩ := hpxS
    clear HBc
    have HO1 := hid (HO1.out.mono (show 0 ≤ _ from Nat.zero_le _))
    go_wp2_with (first
      | (with_reducible refine wpList_dst 19 rfl ?_
         refine wpList_load_box rfl 39 _ rfl PBa rfl _ _ P2.out _ Try.underlying39 Try.infoPa ?_)
      | fail)
    refine (delay_any (i := 0) (ticks := 5) (now := 10) HO1.out.sees (ex_small _ _ (by simp))).mono ?_
    rintro e v1 ⟨q2, rfl, ho, hb⟩
    have CB := hid (CB.out.belowAll hb)
    have P2 := hid (P2.out.belowAll hb)
    have HO1 := hid (HO1.out.below hb)
    have HB := hid (HB.out.trans (hb.mono HB.out.size))
    have hsv1 : xS.heap.size ≤ v1.heap.size := hb.size
    rw [e_delay] at ho ⊢
    have HO1 := hid (ho.mono (Nat.zero_le _))
    clear ho
    clear hb
    have FL1 := hid trivial
    go_wp2_with (first
      | (have hfl := FL1.out
         refine wpList_store_whole rfl 39 _ _ rfl rfl PBa rfl (PaV.cells q2) rfl _ _ P2.out rfl Try.infoPa (PaV.one _) ?_
         intro v2 b g z
         have hsv2 : v1.heap.size ≤ v2.heap.size := by omega
         have HO1 := hid (HO1.out.turn (Turns.grown (S := fun t => t = 39) P2.out b rfl g))
         have P2 := hid (show BoxAt v2 PBa 39 (PaV.cells q2).toArray from b)
         have CB := hid (CB.out.grown g (fun e => by have := Option.some.inj e; omega))
         have HB := hid (HB.out.trans (grown_below g (by omega) (by omega)))
         clear b g z hfl FL1)
      | (with_reducible refine wpList_dst 23 rfl ?_
         refine wpList_load_box rfl 28 _ rfl w0.heap.size rfl _ _ CB.out _ Try.underlying28 Try.infoPv ?_)
      | (with_reducible refine wpList_dst 24 rfl ?_
         refine wpList_load_box rfl 39 _ rfl PBa rfl _ _ P2.out _ Try.underlying39 Try.infoPa ?_)
      | fail)
    refine (wake_any (now := 14) (HAt.out.below HB.out) HO1.out.sees (ex_small _ _ (by simp))).mono ?_
    rintro e v3 ⟨q3, rfl, ho, hb⟩
    have CB := hid (CB.out.belowAll hb)
    have P2 := hid (P2.out.belowAll hb)
    have HO1 := hid (HO1.out.below hb)
    have HB := hid (HB.out.trans (hb.mono HB.out.size))
    have hsv3 : v2.heap.size ≤ v3.heap.size := hb.size
    have HO3 := hid (ho.mono (Nat.zero_le _))
    clear ho
    clear hb
    have FL2 := hid trivial
    have FL3 := hid trivial
    go_wp2_with (first
      | (have hfl := FL2.out
         refine wpList_new rfl 39 rfl _ Try.zeroPa ?_
         intro v4 b h z
         have P3 := hid (show BoxAt v4 v3.heap.size 39 (PaV.cells PaV.zero).toArray from b)
         have CB := hid (CB.out.belowAll h)
         have P2 := hid (P2.out.belowAll h)
         have HO1 := hid (HO1.out.below h)
         have HO3 := hid (HO3.out.below h)
         have HB := hid (HB.out.trans (h.mono HB.out.size))
         have hsv4 : v3.heap.size + 1 ≤ v4.heap.size := by omega
         clear b h z hfl FL2)
      | (have hfl := FL3.out
         refine wpList_store_whole rfl 39 _ _ rfl rfl v3.heap.size rfl (PaV.cells q3) rfl _ _ P3.out rfl Try.infoPa (PaV.one _) ?_
         intro v5 b g z
         have hsv5 : v4.heap.size ≤ v5.heap.size := by omega
         have HO1 := hid (HO1.out.turn (Turns.grown (S := fun t => t = 39) P3.out b rfl g))
         have HO3 := hid (HO3.out.turn (Turns.grown (S := fun t => t = 39) P3.out b rfl g))
         have P3 := hid (show BoxAt v5 v3.heap.size 39 (PaV.cells q3).toArray from b)
         have CB := hid (CB.out.grown g (fun e => by have := Option.some.inj e; omega))
         have P2 := hid (P2.out.grown g (fun e => by have := Option.some.inj e; omega))
         have HB := hid (HB.out.trans (grown_below g (by omega) (by omega)))
         clear b g z hfl FL3)
      | (with_reducible refine wpList_dst 26 rfl ?_
         refine wpList_load_box rfl 28 _ rfl w0.heap.size rfl _ _ CB.out _ Try.underlying28 Try.infoPv ?_)
      | (with_reducible refine wpList_dst 27 rfl ?_
         refine wpList_load_box rfl 39 _ rfl PBa rfl _ _ P2.out _ Try.underlying39 Try.infoPa ?_)
      | fail)
    refine (wake_any (now := 15) (HAt.out.below HB.out) HO1.out.sees (ex_small _ _ (by simp))).mono ?_
    rintro e v6 ⟨q4, rfl, ho, hb⟩
    have CB := hid (CB.out.belowAll hb)
    have P2 := hid (P2.out.belowAll hb)
    have P3 := hid (P3.out.belowAll hb)
    have HO1 := hid (HO1.out.below hb)
    have HO3 := hid (HO3.out.below hb)
    have HB := hid (HB.out.trans (hb.mono HB.out.size))
    have hsv6 : v5.heap.size ≤ v6.heap.size := hb.size
    have HO4 := hid (ho.mono (Nat.zero_le _))
    clear ho
    clear hb
    obtain ⟨g3, cp3, hv3, _, hg3, _, _⟩ := HO3.out.hdr (by rw [e_w14.1]; omega)
    obtain ⟨g4, cp4, hv4, _, hg4, _, _⟩ := HO4.out.hdr (by rw [e_w15.1]; omega)
    rw [e_w14.1] at hv3
    rw [e_w15.1] at hv4
    have HV3 := hid hv3
    have HV4 := hid hv4
    clear hv3 hv4 hg3 hg4
    have FL4 := hid trivial
    have FL5 := hid trivial
    go_wp2_with (first
      | (have hfl := FL4.out
         refine wpList_new rfl 39 rfl _ Try.zeroPa ?_
         intro v7 b h z
         have P4 := hid (show BoxAt v7 v6.heap.size 39 (PaV.cells PaV.zero).toArray from b)
         have P3 := hid (P3.out.belowAll h)
         have HO3 := hid (HO3.out.below h)
         have HO4 := hid (HO4.out.below h)
         have HB := hid (HB.out.trans (h.mono HB.out.size))
         have hsv7 : v6.heap.size + 1 ≤ v7.heap.size := by omega
         have kP34 : v7.cell? ⟨v3.heap.size, 4, none⟩ = some (.slice (some ⟨g3, 0, none⟩) 1 cp3) := (BoxAt.cell P3.out 4).trans (by show some q3.pr.val = _; rw [HV3.out]; rfl)
         have e3 : v7.cell? ⟨g3, 0, none⟩ = some (.int .i64 2) := (by have h := HO3.out.pr; rw [HV3.out] at h; have a := (OP.at (g := g3) (cap := cp3) (by rw [e_w14.1]; exact h) 0 (by rw [e_w14.1]; omega)).st; rw [e_w14.2, Nat.zero_mul] at a; exact a)
         have e4 : v7.cell? ⟨g4, 0, none⟩ = some (.int .i64 1) := (by have h := HO4.out.pr; rw [HV4.out] at h; have a := (OP.at (g := g4) (cap := cp4) (by rw [e_w15.1]; exact h) 0 (by rw [e_w15.1]; omega)).st; rw [e_w15.2.1, Nat.zero_mul] at a; exact a)
         have e5 : v7.cell? ⟨g4, 14, none⟩ = some (.bool true) := (by have h := HO4.out.pr; rw [HV4.out] at h; have a := (OP.at (g := g4) (cap := cp4) (by rw [e_w15.1]; exact h) 0 (by rw [e_w15.1]; omega)) 14 (by decide); rw [Nat.zero_mul, Nat.zero_add] at a; refine a.trans ?_; show some (Value.bool (Px.pe _)) = _; rw [e_w15.2.2])
         clear b h z hfl FL4)
      | (have hfl := FL5.out
         refine wpList_store_whole rfl 39 _ _ rfl rfl v6.heap.size rfl (PaV.cells q4) rfl _ _ P4.out rfl Try.infoPa (PaV.one _) ?_
         intro v8 b g z
         have hsv8 : v7.heap.size ≤ v8.heap.size := by omega
         have HO3 := hid (HO3.out.turn (Turns.grown (S := fun t => t = 39) P4.out b rfl g))
         have HO4 := hid (HO4.out.turn (Turns.grown (S := fun t => t = 39) P4.out b rfl g))
         have P4 := hid (show BoxAt v8 v6.heap.size 39 (PaV.cells q4).toArray from b)
         have P3 := hid (P3.out.grown g (fun e => by have := Option.some.inj e; omega))
         have HB := hid (HB.out.trans (grown_below g (by omega) (by omega)))
         clear kP34
         have kP34 : v8.cell? ⟨v3.heap.size, 4, none⟩ = some (.slice (some ⟨g3, 0, none⟩) 1 cp3) := (BoxAt.cell P3.out 4).trans (by show some q3.pr.val = _; rw [HV3.out]; rfl)
         have kP44 : v8.cell? ⟨v6.heap.size, 4, none⟩ = some (.slice (some ⟨g4, 0, none⟩) 1 cp4) := (BoxAt.cell P4.out 4).trans (by show some q4.pr.val = _; rw [HV4.out]; rfl)
         clear e3
         have e3 : v8.cell? ⟨g3, 0, none⟩ = some (.int .i64 2) := (by have h := HO3.out.pr; rw [HV3.out] at h; have a := (OP.at (g := g3) (cap := cp3) (by rw [e_w14.1]; exact h) 0 (by rw [e_w14.1]; omega)).st; rw [e_w14.2, Nat.zero_mul] at a; exact a)
         clear e4
         have e4 : v8.cell? ⟨g4, 0, none⟩ = some (.int .i64 1) := (by have h := HO4.out.pr; rw [HV4.out] at h; have a := (OP.at (g := g4) (cap := cp4) (by rw [e_w15.1]; exact h) 0 (by rw [e_w15.1]; omega)).st; rw [e_w15.2.1, Nat.zero_mul] at a; exact a)
         clear e5
         have e5 : v8.cell? ⟨g4, 14, none⟩ = some (.bool true) := (by have h := HO4.out.pr; rw [HV4.out] at h; have a := (OP.at (g := g4) (cap := cp4) (by rw [e_w15.1]; exact h) 0 (by rw [e_w15.1]; omega)) 14 (by decide); rw [Nat.zero_mul, Nat.zero_add] at a; refine a.trans ?_; show some (Value.bool (Px.pe _)) = _; rw [e_w15.2.2])
         clear b g z hfl FL5)
      | fail)
    go_ret
    exact ⟨rfl, HB0.out.trans (HB.out.mono HZ0.out)⟩
end Go.Proofs.Ytdanfnbclbiidaa
