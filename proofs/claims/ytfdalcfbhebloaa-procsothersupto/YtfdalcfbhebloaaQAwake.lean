/-
  The chapter's example of package procs.
-/
import Derived.Test.YtfdalcfbhebloaaQNew
import Derived.Laws.EntriesVeiled
namespace Go.Proofs.Ytfdalcfbhebloaa
open Go.RowKit
set_option linter.unusedVariables false

def exC : Pt := { Pt.zero with pc := [⟨3, 0, 5, 0, false⟩] }
def exP0 : Pa := { Pa.zero with pr := [Px.dorm 3] }
def exP1 : Pa := { Pa.zero with pr := [{ Px.dorm 3 with st := 1, du := 15 }], nx := 1 }
def exP2 : Pa := { Pa.zero with pr := [Px.dorm 3], nx := 1 }
theorem ex_new : newP exC = [Px.dorm 3] := rfl
theorem ex_w1 : wrap64 1 = 1 := by simp [wrap64]
theorem ex_w15 : wrap64 15 = 15 := by simp [wrap64]
theorem ex_start : startP exC exP0 0 10 = (exP1, 0) := by
  simp [startP, deedP, startD, exC, exP0, exP1, Pt.zero, Pa.zero, Px.dorm, Dd.out, Dd.nxt, ex_w1, ex_w15]
theorem ex_again : startP exC exP1 0 10 = (exP1, 1) := by rfl
theorem ex_stop : stopP exP1 0 = (exP2, 0) := by rfl
theorem ex_none : stopP exP2 0 = (exP2, 1) := by rfl
theorem ex_small (l : List Px) (n : Int) (h : l.length ≤ 900000) : ({ Pa.zero with pr := l, nx := n } : Pa).small :=
  ⟨by simp [Pa.zero], h, by simp [Pa.zero], by simp [Pa.zero], by simp [Pa.zero], by simp [Pa.zero], by simp [Pa.zero], by simp [Pa.zero], by simp [Pa.zero], by simp [Pa.zero], fun x hx => by simp [Pa.zero] at hx, fun x hx => by simp [Pa.zero] at hx, fun x hx => by simp [Pa.zero] at hx, fun x hx => by simp [Pa.zero] at hx, fun x hx => by simp [Pa.zero] at hx⟩
theorem Try.zeroPv : (Try.prog.info? 28).bind (·.zero) = some (.agg Pv.zero.cells.toArray) := by kernel_rfl
theorem Pv.one (q : Pv) : ∀ v ∈ q.cells, v.oneCell' = true := by
  intro v hv
  simp only [Pv.cells, List.mem_cons, List.not_mem_nil, or_false] at hv
  rcases hv with rfl | rfl | rfl | rfl | rfl | rfl | rfl | rfl | rfl | rfl | rfl <;> rfl

set_option maxRecDepth 100000 in
set_option maxHeartbeats 3200000 in
theorem qawake_any (w : World) : Calls Try.prog 10 #[] w fun e w' => e = .returned (.bool true) ∧ Below w.heap.size w w' := by
  obtain ⟨w0, hw0⟩ : ∃ w0, w.alloc (.cells #[.int .i64 3, .int .i64 0, .int .i64 5, .int .i64 0, .bool false] 65) = w0 := ⟨_, rfl⟩
  obtain ⟨qc, hqc⟩ : ∃ qc : Pv, qc = { Pv.zero with v2 := ⟨some ⟨w.heap.size, 0, none⟩, 1, 1⟩ } := ⟨_, rfl⟩
  have hB0 : Below w.heap.size w w0 := by rw [← hw0]; exact (Below.refl _ _).alloc (Nat.le_refl _) _
  have hbx : BoxAt w0 w.heap.size 65 #[.int .i64 3, .int .i64 0, .int .i64 5, .int .i64 0, .bool false] := by rw [← hw0]; exact BoxAt.new w _ _
  have hAt : PtAt w0 qc exC := by
    subst hqc
    refine ⟨rfl, SeesC.nil _ _, ?_, rfl, SeesC.nil _ _, SeesC.nil _ _, rfl, Sees.nil _ _, Sees.nil _ _, rfl, Sees.nil _ _⟩
    refine .inr ⟨⟨w.heap.size, 0, none⟩, 1, rfl, by simp [exC], by decide, fun i hi j hj => ?_⟩
    have hi0 : i = 0 := by simp [exC] at hi; omega
    subst hi0
    rw [add_none, Nat.zero_mul, Nat.zero_add, Nat.zero_add, hbx.cell]
    match j, hj with
    | 0, _ => rfl
    | 1, _ => rfl
    | 2, _ => rfl
    | 3, _ => rfl
    | 4, _ => rfl
    | j + 5, h => exact absurd h (by omega)
  have HAt := hid hAt
  have HB0 := hid hB0
  have HQc := hid hqc
  have HZ0 := hid (show w.heap.size ≤ w0.heap.size by rw [← hw0]; simp)
  have HW0 := hid hw0
  clear hAt hB0 hbx hw0 hqc
  go_enter Try.func10, Try.ntmps10
  go_wp2_with (first
    | (refine wpList_new rfl 28 rfl _ Try.zeroPv ?_
       rw [HW0.out]
       intro w1 b1 h1 z1
       have CB := hid b1
       have HBc := hid h1
       clear b1 h1)
    | (refine wpList_store_whole rfl 28 _ _ rfl rfl w0.heap.size rfl (Pv.cells qc) (by rw [HQc.out]; rfl) _ _ CB.out rfl Try.infoPv (Pv.one _) ?_
       intro w2 b g z
       have CB := hid b
       have HBc := hid (HBc.out.trans (grown_below g (Nat.le_refl _) (by omega)))
       have hsz : w0.heap.size + 1 ≤ w2.heap.size := by omega
       clear b g)
    | (refine wpList_load_box rfl 28 _ rfl w0.heap.size rfl _ _ CB.out _ Try.underlying28 Try.infoPv ?_)
    | fail)
  refine (new_any (HAt.out.below HBc.out) (by simp [exC])).mono ?_
  rintro e w3 ⟨u, rfl, ho, hb⟩
  rw [ex_new] at ho
  obtain ⟨g0, cp0, rfl, _, _, _, _⟩ := OP.form ho (by simp)
  have CB := hid (CB.out.belowAll hb)
  have HPa := hid (show PaAt w3 { PaV.zero with pr := ⟨some ⟨g0, 0, none⟩, 1, cp0⟩ } exP0 from ⟨rfl, rfl, rfl, Sees.nil _ _, ho.sees, LBd.nil _, LBf.nil _, LSe.nil _, LEv.nil _, SeesSp.nil _, LQu.nil _, rfl, Sees.nil _ _, rfl, Sees.nil _ _⟩)
  have hsz3 : w0.heap.size + 1 ≤ w3.heap.size := by have := hb.size; omega
  have HB3 := hid (HBc.out.trans (hb.mono HBc.out.size))
  clear ho hb HBc hsz z1 z
  obtain ⟨q0, hq0⟩ : ∃ q0 : PaV, q0 = { PaV.zero with pr := ⟨some ⟨g0, 0, none⟩, 1, cp0⟩ } := ⟨_, rfl⟩
  rw [← hq0] at HPa
  have HQ0 := hid hq0
  clear hq0
  go_wp2_with (first
    | (refine wpList_new rfl 39 rfl _ Try.zeroPa ?_
       intro w4 b h z
       have P2 := hid b
       have CB := hid (CB.out.belowAll h)
       have HBx := hid h
       clear b h)
    | (refine wpList_store_whole rfl 39 _ _ rfl rfl w3.heap.size rfl (PaV.cells q0) (by rw [HQ0.out]; rfl) _ _ P2.out rfl Try.infoPa (PaV.one _) ?_
       intro w5 b g z
       have P2 := hid b
       have CB := hid (CB.out.grown g (fun e => by have := Option.some.inj e; omega))
       have HBx := hid (HBx.out.trans (grown_below g (Nat.le_refl _) (by omega)))
       have hsz5 : w3.heap.size + 1 ≤ w5.heap.size := by omega
       clear b g)
    | (refine wpList_load_box rfl 28 _ rfl w0.heap.size rfl _ _ CB.out _ Try.underlying28 Try.infoPv ?_)
    | (refine wpList_load_box rfl 39 _ rfl w3.heap.size rfl _ _ P2.out _ Try.underlying39 Try.infoPa ?_)
    | fail)
  have HB5 := hid (HB3.out.trans (HBx.out.mono HB3.out.size))
  refine (start_api (i := 0) (now := 10) (HAt.out.below HB5.out) (HPa.out.below HBx.out) (ex_small _ _ (by simp))).mono ?_
  rintro e w6 ⟨q1, rfl, ho, hb⟩
  rw [ex_start] at ho ⊢
  have P2 := hid (P2.out.belowAll hb)
  have CB := hid (CB.out.belowAll hb)
  have HO1 := hid ho
  have hsz6 : w3.heap.size + 1 ≤ w6.heap.size := by have := hb.size; omega
  have HB6 := hid (HB5.out.trans (hb.mono HB5.out.size))
  clear ho hb hsz5 HBx HB5 HPa HQ0
  go_wp2_with (first
    | (refine wpList_store_whole rfl 39 _ _ rfl rfl w3.heap.size rfl (PaV.cells q1) rfl _ _ P2.out rfl Try.infoPa (PaV.one _) ?_
       intro w7 b g z
       have HT := hid (Turns.grown (S := fun t => t = 39) P2.out b rfl g)
       have P2 := hid b
       have CB := hid (CB.out.grown g (fun e => by have := Option.some.inj e; omega))
       have HO1 := hid (HO1.out.turn HT.out)
       have HB6 := hid (HB6.out.trans (grown_below g (by omega) (by omega)))
       have hsz7 : w3.heap.size + 1 ≤ w7.heap.size := by omega
       clear b g HT)
    | (refine wpList_load_box rfl 28 _ rfl w0.heap.size rfl _ _ CB.out _ Try.underlying28 Try.infoPv ?_)
    | (refine wpList_load_box rfl 39 _ rfl w3.heap.size rfl _ _ P2.out _ Try.underlying39 Try.infoPa ?_)
    | fail)
  refine (start_api (i := 0) (now := 10) (HAt.out.below HB6.out) HO1.out.sees (ex_small _ _ (by simp))).mono ?_
  rintro e w8 ⟨q2, rfl, ho, hb⟩
  rw [ex_again] at ho ⊢
  have P2 := hid (P2.out.belowAll hb)
  have HO1 := hid (HO1.out.below hb)
  have HO2 := hid ho
  have hsz8 : w3.heap.size + 1 ≤ w8.heap.size := by have := hb.size; omega
  have HB8 := hid (HB6.out.trans (hb.mono HB6.out.size))
  clear ho hb hsz7 HB6 CB
  go_wp2_with (first
    | (refine wpList_new rfl 39 rfl _ Try.zeroPa ?_
       intro w9 b h z
       have P4 := hid b
       have P2 := hid (P2.out.belowAll h)
       have HO1 := hid (HO1.out.below h)
       have HO2 := hid (HO2.out.below h)
       have HB8 := hid (HB8.out.trans (h.mono (by have := HB8.out.size; omega)))
       clear b h)
    | (refine wpList_store_whole rfl 39 _ _ rfl rfl w8.heap.size rfl (PaV.cells q2) rfl _ _ P4.out rfl Try.infoPa (PaV.one _) ?_
       intro w10 b g z
       have HT := hid (Turns.grown (S := fun t => t = 39) P4.out b rfl g)
       have P4 := hid b
       have P2 := hid (P2.out.grown g (fun e => by have := Option.some.inj e; omega))
       have HO1 := hid (HO1.out.turn HT.out)
       have HO2 := hid (HO2.out.turn HT.out)
       have HB8 := hid (HB8.out.trans (grown_below g (by omega) (by omega)))
       have hsz10 : w8.heap.size + 1 ≤ w10.heap.size := by omega
       clear b g HT)
    | (refine wpList_load_box rfl 39 _ rfl w8.heap.size rfl _ _ P4.out _ Try.underlying39 Try.infoPa ?_)
    | fail)
  refine (stop_api (i := 0) HO2.out.sees (ex_small _ _ (by simp))).mono ?_
  rintro e w11 ⟨q3, rfl, ho, hb⟩
  rw [ex_stop] at ho ⊢
  have P2 := hid (P2.out.belowAll hb)
  have HO1 := hid (HO1.out.below hb)
  have HO3 := hid ho
  have hsz11 : w8.heap.size + 1 ≤ w11.heap.size := by have := hb.size; omega
  have HB11 := hid (HB8.out.trans (hb.mono HB8.out.size))
  clear ho hb hsz10 HB8 P4 HO2
  go_wp2_with (first
    | (refine wpList_new rfl 39 rfl _ Try.zeroPa ?_
       intro w12 b h z
       have P6 := hid b
       have P2 := hid (P2.out.belowAll h)
       have HO1 := hid (HO1.out.below h)
       have HO3 := hid (HO3.out.below h)
       have HB11 := hid (HB11.out.trans (h.mono (by have := HB11.out.size; omega)))
       clear b h)
    | (refine wpList_store_whole rfl 39 _ _ rfl rfl w11.heap.size rfl (PaV.cells q3) rfl _ _ P6.out rfl Try.infoPa (PaV.one _) ?_
       intro w13 b g z
       have HT := hid (Turns.grown (S := fun t => t = 39) P6.out b rfl g)
       have P6 := hid b
       have P2 := hid (P2.out.grown g (fun e => by have := Option.some.inj e; omega))
       have HO1 := hid (HO1.out.turn HT.out)
       have HO3 := hid (HO3.out.turn HT.out)
       have HB11 := hid (HB11.out.trans (grown_below g (by omega) (by omega)))
       have hsz13 : w11.heap.size + 1 ≤ w13.heap.size := by omega
       clear b g HT)
    | (refine wpList_load_box rfl 39 _ rfl w11.heap.size rfl _ _ P6.out _ Try.underlying39 Try.infoPa ?_)
    | fail)
  refine (stop_api (i := 0) HO3.out.sees (ex_small _ _ (by simp))).mono ?_
  rintro e w14 ⟨q4, rfl, ho, hb⟩
  rw [ex_none] at ho ⊢
  have P2 := hid (P2.out.belowAll hb)
  have P6 := hid (P6.out.belowAll hb)
  have HO1 := hid (HO1.out.below hb)
  have HO3 := hid (HO3.out.below hb)
  have hsz14 : w11.heap.size + 1 ≤ w14.heap.size := by have := hb.size; omega
  have HB14 := hid (HB11.out.trans (hb.mono HB11.out.size))
  clear ho hb hsz13 HB11
  obtain ⟨g1, cp1, hv1, _, hg1, _, _⟩ := OP.form HO1.out.pr (by simp [exP1])
  obtain ⟨g3, cp3, hv3, _, hg3, _, _⟩ := OP.form HO3.out.pr (by simp [exP2])
  have HV1 := hid hv1
  have HV3 := hid hv3
  have h1 := HO1.out.pr
  rw [hv1] at h1
  have h3 := HO3.out.pr
  rw [hv3] at h3
  have HA1 := hid (OP.at h1 0 (by simp [exP1]))
  have HA3 := hid (OP.at h3 0 (by simp [exP2]))
  clear hv1 hv3 h1 h3
  go_wp2_with (first
    | (refine wpList_new rfl 39 rfl _ Try.zeroPa ?_
       intro w15 b h z
       have P8 := hid b
       have P2 := hid (P2.out.belowAll h)
       have P6 := hid (P6.out.belowAll h)
       have HA1 := hid (HA1.out.below h hg1)
       have HA3 := hid (HA3.out.below h hg3)
       have HB14 := hid (HB14.out.trans (h.mono (by have := HB14.out.size; omega)))
       clear b h)
    | (refine wpList_store_whole rfl 39 _ _ rfl rfl w14.heap.size rfl (PaV.cells q4) rfl _ _ P8.out rfl Try.infoPa (PaV.one _) ?_
       intro w16 b g z
       have P2 := hid (P2.out.grown g (fun e => by have := Option.some.inj e; omega))
       have P6 := hid (P6.out.grown g (fun e => by have := Option.some.inj e; omega))
       have hb16 : Below w14.heap.size w15 w16 := grown_below g (Nat.le_refl _) (by omega)
       have HA1 := hid (HA1.out.below hb16 hg1)
       have HA3 := hid (HA3.out.below hb16 hg3)
       have HB14 := hid (HB14.out.trans (hb16.mono (by have := HB14.out.size; omega)))
       have k1 : w16.cell? ⟨w3.heap.size, 4, none⟩ = some (.slice (some ⟨g1, 0, none⟩) 1 cp1) := (P2.out.cell 4).trans (by show some q1.pr.val = _; rw [HV1.out]; rfl)
       have k3 : w16.cell? ⟨w11.heap.size, 4, none⟩ = some (.slice (some ⟨g3, 0, none⟩) 1 cp3) := (P6.out.cell 4).trans (by show some q3.pr.val = _; rw [HV3.out]; rfl)
       have e1 : w16.cell? ⟨g1, 0, none⟩ = some (.int .i64 1) := (HA1.out 0 (by decide)).trans rfl
       have e2 : w16.cell? ⟨g1, 12, none⟩ = some (.int .i64 15) := (HA1.out 12 (by decide)).trans rfl
       have e3 : w16.cell? ⟨g3, 0, none⟩ = some (.int .i64 0) := (HA3.out 0 (by decide)).trans rfl
       clear b g hb16))
  go_ret
  exact ⟨rfl, HB0.out.trans (HB14.out.mono HZ0.out)⟩
end Go.Proofs.Ytfdalcfbhebloaa
