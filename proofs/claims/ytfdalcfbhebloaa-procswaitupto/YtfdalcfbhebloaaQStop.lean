/-
  What the document's Stop and New return.
-/
import Derived.Test.YtfdalcfbhebloaaQLeave
namespace Go.Proofs.Ytfdalcfbhebloaa
open Go.RowKit
set_option linter.unusedVariables false

set_option maxRecDepth 100000 in
set_option maxHeartbeats 6400000 in
theorem rstop_any {q : PaV} {c : Pa} {w0 w : World} {i : Int} (ha : PaAt w0 q c) (h0 : Below w0.heap.size w0 w) (hsm : c.small) :
    Calls Try.prog 31 #[q.val, .int .i64 i] w fun e w' => ∃ q', e = .returned (.tuple #[PaV.val q', .int .i64 (stopP c i).2]) ∧ PaS w0.heap.size w' q' (stopP c i).1 ∧ Below w.heap.size w w' := by
  have HA0 := hid ha
  have HA := hid (ha.below h0)
  have H0 := hid h0
  have h0s : w0.heap.size ≤ w.heap.size := h0.size
  have HSm := hid hsm
  have HB := hid (Below.refl w.heap.size w)
  obtain ⟨ap, cpp, hpv, hp1, hp2, hpcell⟩ := HA.out.pr.form
  have hmax : cpp ≤ 9223372036854775807 := hp2
  have HPv := hid hpv
  have HPc := hid hpcell
  clear ha h0 hsm hpv hp2 hpcell
  go_enter Try.func31, Try.ntmps31
  have FL1 := hid trivial
  have FL2 := hid trivial
  go_wp2_with (first
    | (have hfl := FL1.out
       refine wpList_box rfl 39 (.tmp 0) rfl (PaV.cells q).toArray rfl ?_
       intro v1 b h z
       have PB := hid (show BoxAt v1 w.heap.size 39 (PaV.cells q).toArray from b)
       have HB := hid (HB.out.trans (h.mono HB.out.size))
       have hsv1 : w.heap.size + 1 ≤ v1.heap.size := by omega
       clear b h z hfl FL1)
    | (have hfl := FL2.out
       refine wpList_new rfl 39 rfl _ Try.zeroPa ?_
       intro v2 b h z
       have RB := hid (show BoxAt v2 v1.heap.size 39 (PaV.cells PaV.zero).toArray from b)
       have PB := hid (PB.out.belowAll h)
       have HB := hid (HB.out.trans (h.mono HB.out.size))
       have hsv2 : v1.heap.size + 1 ≤ v2.heap.size := by omega
       clear b h z hfl FL2)
    | (refine wpList_load_box rfl 39 _ rfl w.heap.size rfl _ _ PB.out _ Try.underlying39 Try.infoPa ?_)
    | fail)
  refine (rthere_any i (HA.out.below HB.out)).mono ?_
  rintro e v3 ⟨rfl, hb⟩
  have PB := hid (PB.out.belowAll hb)
  have RB := hid (RB.out.belowAll hb)
  have HB := hid (HB.out.trans (hb.mono HB.out.size))
  have hsv3 : v2.heap.size ≤ v3.heap.size := hb.size
  clear hb
  by_cases hin : 0 ≤ i ∧ i < c.pr.length
  rotate_left
  · have HIn := hid hin
    rw [decide_eq_false hin]
    clear hin
    have FL3 := hid trivial
    go_wp2_with (first
      | (refine wpList_load_box rfl 39 _ rfl w.heap.size rfl _ _ PB.out _ Try.underlying39 Try.infoPa ?_)
      | (have hfl := FL3.out
         refine wpList_store_whole rfl 39 _ _ rfl rfl v1.heap.size rfl (PaV.cells q) rfl _ _ RB.out rfl Try.infoPa (PaV.one _) ?_
         intro v4 b g z
         have hsv4 : v3.heap.size ≤ v4.heap.size := by omega
         have RB := hid (show BoxAt v4 v1.heap.size 39 (PaV.cells q).toArray from b)
         have PB := hid (PB.out.grown g (fun e => by have := Option.some.inj e; omega))
         have HB := hid (HB.out.trans (grown_below g (by omega) (by omega)))
         clear b g z hfl FL3)
      | fail)
    refine bodyPost_ret (results_box_tmp rfl _ _ (v1.heap.size) 39 _ (0, 0) _ rfl RB.out Try.underlying39 rfl Try.infoPa) rfl ?_
    rw [show stopP c i = (c, 3) from by unfold stopP; rw [deed_out HIn.out, if_neg (by simp)]]
    exact ⟨q, rfl, PaS.from HA0.out (H0.out.trans (HB.out.mono h0s)), HB.out⟩
  rw [decide_eq_true hin]
  obtain ⟨k, hki⟩ : ∃ k : Nat, i = (k : Int) := ⟨(i).toNat, by omega⟩
  have hk : k < c.pr.length := by omega
  clear hin
  subst hki
  obtain ⟨b1, off, rfl, hbw, hpx⟩ := HPc.out (by omega)
  have HP0 := hid (show PxAt w b1 (off + k * 18) (c.pr.getD k Px.zero) from fun j hj => hpx k hk j hj)
  clear hpx
  obtain ⟨r, hr⟩ : ∃ r, c.pr.getD k Px.zero = r := ⟨_, rfl⟩
  rw [hr] at HP0
  have HR := hid hr
  have HK := hid hk
  clear hr
  have kPB4 : v3.cell? ⟨w.heap.size, 4, none⟩ = some (.slice (some ⟨b1, off, none⟩) c.pr.length cpp) := (BoxAt.cell PB.out 4).trans (by show some q.pr.val = _; rw [HPv.out])
  have kst : v3.cell? ⟨b1, off + k * 18, none⟩ = some (.int .i64 r.st) := (HP0.out.below HB.out hbw).st
  by_cases hst : r.st = 0
  · have HD := hid (show stopD r = ⟨r, false, 1⟩ from by unfold stopD; rw [if_pos hst])
    have FL4 := hid trivial
    go_wp2_with (first
      | (refine wpList_load_box rfl 39 _ rfl w.heap.size rfl _ _ PB.out _ Try.underlying39 Try.infoPa ?_)
      | (have hfl := FL4.out
         refine wpList_store_whole rfl 39 _ _ rfl rfl v1.heap.size rfl (PaV.cells q) rfl _ _ RB.out rfl Try.infoPa (PaV.one _) ?_
         intro v5 b g z
         have hsv5 : v3.heap.size ≤ v5.heap.size := by omega
         have RB := hid (show BoxAt v5 v1.heap.size 39 (PaV.cells q).toArray from b)
         have PB := hid (PB.out.grown g (fun e => by have := Option.some.inj e; omega))
         have HB := hid (HB.out.trans (grown_below g (by omega) (by omega)))
         clear kPB4
         have kPB4 : v5.cell? ⟨w.heap.size, 4, none⟩ = some (.slice (some ⟨b1, off, none⟩) c.pr.length cpp) := (BoxAt.cell PB.out 4).trans (by show some q.pr.val = _; rw [HPv.out])
         clear b g z hfl FL4)
      | fail)
    refine bodyPost_ret (results_box_tmp rfl _ _ (v1.heap.size) 39 _ (0, 0) _ rfl RB.out Try.underlying39 rfl Try.infoPa) rfl ?_
    rw [show stopP c (k : Int) = (c, 1) from by unfold stopP; rw [deed_idle HK.out _ (by rw [HR.out]; exact HD.out), if_neg (by simp)]]
    exact ⟨q, rfl, PaS.from HA0.out (H0.out.trans (HB.out.mono h0s)), HB.out⟩
  · have HD := hid (show stopD r = ⟨Px.dorm r.pr, false, 0⟩ from by unfold stopD; rw [if_neg hst])
    have thst : (r.st == 0) = false := by simpa using hst
    go_wp2_with (first
      | (refine wpList_load_box rfl 39 _ rfl w.heap.size rfl _ _ PB.out _ Try.underlying39 Try.infoPa ?_)
      | fail)
    refine (rleave_any (i := (k : Int)) HA0.out (H0.out.trans (HB.out.mono h0s)) HSm.out).mono ?_
    rintro e v6 ⟨q2, rfl, ho, hb⟩
    have PB := hid (PB.out.belowAll hb)
    have RB := hid (RB.out.belowAll hb)
    have HB := hid (HB.out.trans (hb.mono HB.out.size))
    have hsv6 : v3.heap.size ≤ v6.heap.size := hb.size
    have HQ2 := hid ho
    clear ho
    clear kPB4
    have kPB4 : v6.cell? ⟨w.heap.size, 4, none⟩ = some (.slice (some ⟨b1, off, none⟩) c.pr.length cpp) := (BoxAt.cell PB.out 4).trans (by show some q.pr.val = _; rw [HPv.out])
    clear hb
    clear hst kst
    have FL5 := hid trivial
    have FL6 := hid trivial
    go_wp2_with (first
      | (have hfl := FL5.out
         refine wpList_new rfl 39 rfl _ Try.zeroPa ?_
         intro v7 b h z
         have LB := hid (show BoxAt v7 v6.heap.size 39 (PaV.cells PaV.zero).toArray from b)
         have PB := hid (PB.out.belowAll h)
         have RB := hid (RB.out.belowAll h)
         have HQ2 := hid (HQ2.out.below (by omega) h)
         have HB := hid (HB.out.trans (h.mono HB.out.size))
         have hsv7 : v6.heap.size + 1 ≤ v7.heap.size := by omega
         clear kPB4
         have kPB4 : v7.cell? ⟨w.heap.size, 4, none⟩ = some (.slice (some ⟨b1, off, none⟩) c.pr.length cpp) := (BoxAt.cell PB.out 4).trans (by show some q.pr.val = _; rw [HPv.out])
         clear b h z hfl FL5)
      | (have hfl := FL6.out
         refine wpList_store_whole rfl 39 _ _ rfl rfl v6.heap.size rfl (PaV.cells q2) rfl _ _ LB.out rfl Try.infoPa (PaV.one _) ?_
         intro v8 b g z
         have hsv8 : v7.heap.size ≤ v8.heap.size := by omega
         have HQ2 := hid (HQ2.out.put (by omega) (by omega) g LB.out b)
         have LB := hid (show BoxAt v8 v6.heap.size 39 (PaV.cells q2).toArray from b)
         have PB := hid (PB.out.grown g (fun e => by have := Option.some.inj e; omega))
         have RB := hid (RB.out.grown g (fun e => by have := Option.some.inj e; omega))
         have HB := hid (HB.out.trans (grown_below g (by omega) (by omega)))
         clear kPB4
         have kPB4 : v8.cell? ⟨w.heap.size, 4, none⟩ = some (.slice (some ⟨b1, off, none⟩) c.pr.length cpp) := (BoxAt.cell PB.out 4).trans (by show some q.pr.val = _; rw [HPv.out])
         clear b g z hfl FL6)
      | fail)
    have PB := hid (BoxAt.drew PB.out)
    have RB := hid (BoxAt.drew RB.out)
    have LB := hid (BoxAt.drew LB.out)
    have HQ2 := hid (HQ2.out.below (by omega) ((Below.refl _ _).drew))
    have HB := hid HB.out.drew
    clear kPB4
    have hsd : v6.heap.size + 1 ≤ v8.drew.heap.size := by show _ ≤ v8.heap.size; omega
    refine wp_region_held_drew (S := (fun W => BoxAt W v6.heap.size 39 (PaV.cells q2).toArray ∧ W.cell? ⟨w.heap.size, 4, none⟩ = some (.slice (some ⟨b1, off, none⟩) c.pr.length cpp) ∧ W.cell? ⟨b1, off + k * 18 + 1, none⟩ = some (.int .i64 r.pr))) (by kernel_rfl) (⟨LB.out, (BoxAt.cell PB.out 4).trans (by show some q.pr.val = _; rw [HPv.out]), (HP0.out.below HB.out hbw).pr⟩) (fun hHeld => ?_)
    refine wpAnyH_take (i := 0) (oi := { dst := some 25, op := Op.load 39 (Operand.tmp 7), type := 39, pos := "ref.go:103", after := #[], guard := none }) (v := ?v501) rfl (by kernel_rfl) (by kernel_rfl) (by kernel_rfl) (fun _ _ _ h => h) (Or.inl ⟨by rfl, ?hy501⟩) (by assumption) ?rest501
    case hy501 => (intro W hSw; refine box_yields 39 (.tmp 7) ?_ v6.heap.size ?_ (PaV.cells q2) 39 _ Try.underlying39 Try.infoPa hSw.1 <;> rfl)
    simp only [Act.put, List.setIfInBounds_toArray, List.set_cons_zero, List.set_cons_succ]
    refine wpAnyH_take (i := 1) (oi := { dst := some 26, op := Op.move (Operand.tmp 1), type := 3, pos := "ref.go:103", after := #[], guard := none }) (v := ?v502) rfl (by kernel_rfl) (by kernel_rfl) (by kernel_rfl) (fun _ _ _ h => h) (Or.inl ⟨by rfl, ?hy502⟩) (by assumption) ?rest502
    case hy502 => (intro w hSw; (try dsimp only at hSw); go_simp; try with_reducible rfl)
    simp only [Act.put, List.setIfInBounds_toArray, List.set_cons_zero, List.set_cons_succ]
    refine wpAnyH_take (i := 2) (oi := { dst := some 27, op := Op.fieldAddr 39 (Operand.tmp 2) 4, type := 0, pos := "ref.go:103", after := #[], guard := none }) (v := ?v503) rfl (by kernel_rfl) (by kernel_rfl) (by kernel_rfl) (fun _ _ _ h => h) (Or.inl ⟨by rfl, ?hy503⟩) (by assumption) ?rest503
    case hy503 => (intro w hSw; (try dsimp only at hSw); go_simp; try with_reducible rfl)
    simp only [Act.put, List.setIfInBounds_toArray, List.set_cons_zero, List.set_cons_succ]
    refine wpAnyH_take (i := 3) (oi := { dst := some 28, op := Op.load 29 (Operand.tmp 27), type := 29, pos := "ref.go:103", after := #[{ on := 2, ground := Ground.data }], guard := none }) (v := ?v504) rfl (by kernel_rfl) (by kernel_rfl) (by kernel_rfl) (fun _ _ _ h => h) (Or.inl ⟨by rfl, ?hy504⟩) (by assumption) ?rest504
    case hy504 => (intro w hSw; (try dsimp only at hSw); go_simp; try with_reducible rfl)
    simp only [Act.put, List.setIfInBounds_toArray, List.set_cons_zero, List.set_cons_succ]
    refine wpAnyH_take (i := 4) (oi := { dst := some 29, op := Op.move (Operand.tmp 1), type := 3, pos := "ref.go:103", after := #[], guard := none }) (v := ?v505) rfl (by kernel_rfl) (by kernel_rfl) (by kernel_rfl) (fun _ _ _ h => h) (Or.inl ⟨by rfl, ?hy505⟩) (by assumption) ?rest505
    case hy505 => (intro w hSw; (try dsimp only at hSw); go_simp; try with_reducible rfl)
    simp only [Act.put, List.setIfInBounds_toArray, List.set_cons_zero, List.set_cons_succ]
    refine wpAnyH_take (i := 5) (oi := { dst := some 30, op := Op.indexAddr 29 (Operand.tmp 28) (Operand.tmp 29), type := 0, pos := "ref.go:103", after := #[{ on := 3, ground := Ground.data }, { on := 4, ground := Ground.data }], guard := none }) (v := ?v506) rfl (by kernel_rfl) (by kernel_rfl) (by kernel_rfl) (fun _ _ _ h => h) (Or.inl ⟨by rfl, ?hy506⟩) (by assumption) ?rest506
    case hy506 => (intro w hSw; (try dsimp only at hSw); go_simp; try with_reducible rfl)
    simp only [Act.put, List.setIfInBounds_toArray, List.set_cons_zero, List.set_cons_succ]
    refine wpAnyH_take (i := 6) (oi := { dst := some 31, op := Op.fieldAddr 58 (Operand.tmp 30) 1, type := 0, pos := "ref.go:103", after := #[{ on := 5, ground := Ground.data }], guard := none }) (v := ?v507) rfl (by kernel_rfl) (by kernel_rfl) (by kernel_rfl) (fun _ _ _ h => h) (Or.inl ⟨by rfl, ?hy507⟩) (by assumption) ?rest507
    case hy507 => (intro w hSw; (try dsimp only at hSw); go_simp; try with_reducible rfl)
    simp only [Act.put, List.setIfInBounds_toArray, List.set_cons_zero, List.set_cons_succ]
    refine wpAnyH_take (i := 7) (oi := { dst := some 32, op := Op.load 3 (Operand.tmp 31), type := 3, pos := "ref.go:103", after := #[{ on := 6, ground := Ground.data }], guard := none }) (v := ?v508) rfl (by kernel_rfl) (by kernel_rfl) (by kernel_rfl) (fun _ _ _ h => h) (Or.inl ⟨by rfl, ?hy508⟩) (by assumption) ?rest508
    case hy508 => (intro w hSw; (try dsimp only at hSw); go_simp; try with_reducible rfl)
    simp only [Act.put, List.setIfInBounds_toArray, List.set_cons_zero, List.set_cons_succ]
    refine wpAnyH_ready (rs := [8]) (by kernel_rfl) (by simp) (AllReadyH.cons (o := { dst := some 33, op := Op.call { callee := Callee.value (Operand.func 47), args := #[Operand.tmp 32], argTypes := #[3] }, type := 58, pos := "ref.go:103", after := #[{ on := 7, ground := Ground.data }], guard := none }) rfl (fun K509 hK509 => ?_) AllReadyH.nil)
    go_simp
    refine (rdorm_any r.pr _).mono ?_
    rintro e vd ⟨rfl, hb⟩
    have PB := hid (PB.out.belowAll hb)
    have RB := hid (RB.out.belowAll hb)
    have LB := hid (LB.out.belowAll hb)
    have HB := hid (HB.out.trans (hb.mono HB.out.size))
    have hsvd : v8.drew.heap.size ≤ vd.heap.size := hb.size
    have HQ2 := hid (HQ2.out.below (by omega) hb)
    clear hb
    refine hK509.out _ _ (⟨LB.out, (BoxAt.cell PB.out 4).trans (by show some q.pr.val = _; rw [HPv.out]), (HP0.out.below HB.out hbw).pr⟩) (fun hHeld509 => ?_)
    clear hK509 K509
    try simp only [Act.put, List.setIfInBounds_toArray, List.set_cons_zero, List.set_cons_succ]
    refine wpAnyH_ready (rs := [9]) (by kernel_rfl) (by simp) (AllReadyH.cons (o := { dst := some 34, op := Op.call { callee := Callee.value (Operand.func 40), args := #[Operand.tmp 25, Operand.tmp 26, Operand.tmp 33], argTypes := #[39, 3, 58] }, type := 39, pos := "ref.go:103", after := #[{ on := 0, ground := Ground.data }, { on := 1, ground := Ground.data }, { on := 8, ground := Ground.data }, { on := 8, ground := Ground.chain }], guard := none }) rfl (fun K510 hK510 => ?_) AllReadyH.nil)
    go_simp
    refine (rwith_s (n := w0.heap.size) (c := leaveP c (isW (k : Int))) k (Px.dorm r.pr) HQ2.out (by omega) HSm.out.pr HK.out).mono ?_
    rintro e vw ⟨q', rfl, ho, hb⟩
    have PB := hid (PB.out.belowAll hb)
    have RB := hid (RB.out.belowAll hb)
    have LB := hid (LB.out.belowAll hb)
    have HB := hid (HB.out.trans (hb.mono HB.out.size))
    have hsvw : vd.heap.size ≤ vw.heap.size := hb.size
    have HO := hid ho
    clear ho hb
    refine hK510.out _ _ (⟨LB.out, (BoxAt.cell PB.out 4).trans (by show some q.pr.val = _; rw [HPv.out]), (HP0.out.below HB.out hbw).pr⟩) (fun hHeld510 => ?_)
    clear hK510 K510
    try simp only [Act.put, List.setIfInBounds_toArray, List.set_cons_zero, List.set_cons_succ]
    refine wpAnyH_ready (rs := [10]) (by kernel_rfl) (by simp) (AllReadyH.cons (o := { dst := none, op := Op.store 39 (Operand.tmp 4) (Operand.tmp 34), type := 0, pos := "ref.go:103", after := #[{ on := 9, ground := Ground.data }, { on := 9, ground := Ground.chain }, { on := 0, ground := Ground.phase }, { on := 1, ground := Ground.phase }, { on := 2, ground := Ground.phase }, { on := 3, ground := Ground.phase }, { on := 4, ground := Ground.phase }, { on := 5, ground := Ground.phase }, { on := 6, ground := Ground.phase }, { on := 7, ground := Ground.phase }, { on := 8, ground := Ground.phase }, { on := 9, ground := Ground.phase }], guard := none }) rfl (fun K511 hK511 => ?_) AllReadyH.nil)
    refine wp_store_whole 39 _ _ rfl v1.heap.size rfl (PaV.cells q') rfl _ _ RB.out rfl Try.infoPa (PaV.one _) ?_
    intro vz b g z
    have HO := hid (HO.out.put (by omega) (by omega) g RB.out b)
    have RB := hid b
    have LB := hid (LB.out.grown g (fun e => by have := Option.some.inj e; omega))
    have PB := hid (PB.out.grown g (fun e => by have := Option.some.inj e; omega))
    have HB := hid (HB.out.trans (grown_below g (by omega) (by omega)))
    clear b g z
    refine hK511.out _ _ (⟨LB.out, (BoxAt.cell PB.out 4).trans (by show some q.pr.val = _; rw [HPv.out]), (HP0.out.below HB.out hbw).pr⟩) (fun hHeld511 => ?_)
    clear hK511 K511
    try simp only [Act.put]
    refine wpAnyH_take (i := 11) (oi := { dst := some 5, op := Op.assign (Operand.const (Value.int IntKind.i64 0)), type := 3, pos := "ref.go:103", after := #[{ on := 10, ground := Ground.chain }, { on := 0, ground := Ground.phase }, { on := 1, ground := Ground.phase }, { on := 2, ground := Ground.phase }, { on := 3, ground := Ground.phase }, { on := 4, ground := Ground.phase }, { on := 5, ground := Ground.phase }, { on := 6, ground := Ground.phase }, { on := 7, ground := Ground.phase }, { on := 8, ground := Ground.phase }, { on := 9, ground := Ground.phase }, { on := 10, ground := Ground.phase }], guard := none }) (v := ?v512) rfl (by kernel_rfl) (by kernel_rfl) (by kernel_rfl) (fun _ _ _ h => h) (Or.inl ⟨by rfl, ?hy512⟩) (by assumption) ?rest512
    case hy512 => (intro w hSw; (try dsimp only at hSw); go_simp; try with_reducible rfl)
    simp only [Act.put, List.setIfInBounds_toArray, List.set_cons_zero, List.set_cons_succ]
    refine wpAnyH_done (by kernel_rfl) ?_ _
    clear hHeld hHeld509 hHeld510 hHeld511
    go_wp2_with fail
    refine bodyPost_ret (results_box_tmp rfl _ _ (v1.heap.size) 39 _ (0, 0) _ rfl RB.out Try.underlying39 rfl Try.infoPa) rfl ?_
    rw [show stopP c (k : Int) = ({ leaveP c (isW (k : Int)) with pr := c.pr.set k (Px.dorm r.pr) }, 0) from by unfold stopP; rw [deed_does HK.out stopD (by rw [HR.out]; exact HD.out), if_pos rfl]; rfl]
    exact ⟨q', rfl, HO.out, HB.out⟩

end Go.Proofs.Ytfdalcfbhebloaa
