/-
  ProcsSuspends: who is suspended, and resumed, is as it was, but, if it is ready, behind all others; who is suspended twice is told so.
-/
import Derived.Test.YtfdalcfbhebloaaQFew
import Derived.Test.YtfdalcfbhebloaaQAwake
import Derived.Test.YtfdalcfbhebloaaQFacts
import Derived.Test.YtfdalcfbhebloaaQSame1
import Derived.Test.YtfdalcfbhebloaaQApi2
namespace Go.Proofs.Ytfdalcfbhebloaa
open Go.RowKit
set_option linter.unusedVariables false

theorem wpList_wanted {P : Program} {ops : Array Oper} {rest : List Oper} {o : Oper} {a : Act} {w : World} {Q : Exit → Act → World → Prop} (hw : Region.wanted o (yielded ops a.tmps) = true) (h : o.wp P a w (wpList P ops Q rest) Q) : wpList P ops Q (o :: rest) a w := by
  unfold wpList
  rw [if_pos hw]
  exact .inl h
theorem wp_eql_px {o : Oper} {a : Act} {w : World} {K : Act → World → Prop} {Q : Exit → Act → World → Prop} (x y : Operand) (ho : o.op = .binOp .eql 58 x y 58) (X : Px) (hx : a.eval x = .agg X.cells.toArray) (hy : a.eval y = .agg X.cells.toArray)
    (h : K (a.put o.dst (.bool true)) w) : Oper.wp Try.prog o a w K Q := by
  obtain ⟨b, hb, hbt⟩ := eq_Px X X
  unfold Oper.wp execOp
  simp only [ho, hx, hy, Sem.run_bind, run_eqGuard_agg _ _ _ _ _ _ _ (show Try.prog.eqGuardType Try.prog.depth 58 = false by kernel_rfl), Result.andThen_ok, run_eql_struct, hb, hbt rfl]
  exact h
theorem eql_px (X : Px) (w : World) : (binOp .eql 58 (.agg X.cells.toArray) (.agg X.cells.toArray)).run Try.prog w = .ok (.bool true) w := by
  obtain ⟨b, h, hb⟩ := eq_Px X X
  rw [run_eql_struct, h w, hb rfl]
  rfl

set_option maxRecDepth 100000 in
set_option maxHeartbeats 6400000 in
theorem walk_ProcsSuspends (w : World) (x0 : PtX) (f0 : x0.fit w) (x1 : PaX) (f1 : x1.fit w) (i : Int) (w2 : (Lit.int .i64 i).wf = true) (hN : 2 * (x1.c.bo.length + x1.c.bu.length + x1.c.se.length + x1.c.ev.length) ≤ 1048576) :
    Calls Try.prog 8 #[x0.val, x1.val, .int .i64 i] w fun e w' => e = .returned (.bool true) ∧ Below w.heap.size w w' := by
  obtain ⟨qc, cc⟩ := x0
  obtain ⟨q, c⟩ := x1
  unfold PtX.val PaX.val
  simp only at hN ⊢
  have HC := hid f0.1
  have HA := hid f1.1
  have HNm := hid (show c.bo.length + c.bu.length + c.se.length + c.ev.length ≤ 900000 by omega)
  clear f0 f1 hN w2
  obtain ⟨ac, cpc, hcv, hc1, hc2, hcell⟩ := HC.out.pc.form
  obtain ⟨ap, cpp, hpv, hp1, hp2, hpcell⟩ := HA.out.pr.form
  have hmax : cpp ≤ 9223372036854775807 := hp2
  have HCv := hid hcv
  have HPv := hid hpv
  have HPc := hid hpcell
  clear hcv hc1 hc2 hcell hpv hp2 hpcell
  go_enter Try.func8, Try.ntmps8
  go_wp2_with (first
    | (refine wpList_box rfl 28 (.tmp 0) rfl qc.cells.toArray rfl ?_
       intro v1 b1 h1 z1
       have CB := hid b1
       have HB := hid h1
       clear b1 h1)
    | (refine wpList_box rfl 39 (.tmp 1) rfl q.cells.toArray rfl ?_
       intro v2 b2 h2 z2
       rw [z1] at b2
       have PB := hid (show PaB v2 (w.heap.size + 1) q from b2)
       have CB := hid (CB.out.belowAll h2)
       have HB := hid (HB.out.trans (h2.mono (by omega)))
       have hsz : w.heap.size + 2 ≤ v2.heap.size := by omega
       clear b2 h2)
    | fail)
  refine (qawake_any _).mono ?_
  rintro e v3 ⟨rfl, hb⟩
  have PB := hid (show PaB v3 (w.heap.size + 1) q from BoxAt.belowAll PB.out hb)
  have CB := hid (CB.out.belowAll hb)
  have HB := hid (HB.out.trans (hb.mono HB.out.size))
  have hsz3 : w.heap.size + 2 ≤ v3.heap.size := by have := hb.size; omega
  clear hb hsz z1 z2
  go_wp2_with (first
    | (refine wpList_load_box rfl 39 _ rfl (w.heap.size + 1) rfl _ _ PB.out _ Try.underlying39 Try.infoPa ?_)
    | fail)
  refine (few_tot (HA.out.below HB.out) HNm.out).mono ?_
  rintro e v4 ⟨⟨ok, rfl, hok⟩, hb⟩
  have PB := hid (show PaB v4 (w.heap.size + 1) q from BoxAt.belowAll PB.out hb)
  have CB := hid (CB.out.belowAll hb)
  have HB := hid (HB.out.trans (hb.mono HB.out.size))
  have hsz4 : w.heap.size + 2 ≤ v4.heap.size := by have := hb.size; omega
  have HOk := hid hok
  have kcc : v4.cell? ⟨w.heap.size, 2, none⟩ = some (.slice ac cc.pc.length cpc) := (CB.out.cell 2).trans (by show some qc.v2.val = _; rw [HCv.out])
  clear hb hok hsz3
  rcases ok with _ | _
  · go_wp2
    go_ret
    exact ⟨rfl, HB.out⟩
  have HT := hid (HOk.out rfl)
  have HSm := hid HT.out.small
  by_cases hbig : (20 : Int) < (cc.pc.length : Int)
  · go_wp2
    go_ret
    exact ⟨rfl, HB.out⟩
  have HBig := hid (show cc.pc.length ≤ 20 by omega)
  go_wp2_with (first
    | (refine wpList_load_box rfl 28 _ rfl w.heap.size rfl _ _ CB.out _ Try.underlying28 Try.infoPv ?_)
    | (refine wpList_load_box rfl 39 _ rfl (w.heap.size + 1) rfl _ _ PB.out _ Try.underlying39 Try.infoPa ?_)
    | fail)
  obtain ⟨⟨D1, k1⟩, hD1⟩ : ∃ D, suspP cc c i = D := ⟨_, rfl⟩
  have HD1 := hid hD1
  have HCode := hid (susp_code cc c i)
  refine (suspend_api (i := i) (HC.out.below HB.out) (HA.out.below HB.out) HSm.out).mono ?_
  rintro e v5 ⟨q1, rfl, ho, hb⟩
  rw [hD1] at ho ⊢
  have PB := hid (show PaB v5 (w.heap.size + 1) q from BoxAt.belowAll PB.out hb)
  have CB := hid (CB.out.belowAll hb)
  have HO1 := hid ho
  have HB := hid (HB.out.trans (hb.mono HB.out.size))
  have hsz5 : w.heap.size + 2 ≤ v5.heap.size := by have := hb.size; omega
  clear ho hb hD1 hsz4 kcc
  by_cases hk1 : k1 = 0
  rotate_left
  · have hcode := HCode.out
    rw [HD1.out] at hcode
    have HK := hid (show k1 = 3 ∨ k1 = 4 ∨ k1 = 1 by simp only at hcode; omega)
    clear hcode hk1
    rcases HK.out with rfl | rfl | rfl
    all_goals
      go_wp2_with (first
        | (refine wpList_new rfl 39 rfl _ Try.zeroPa ?_
           intro v6 b h z
           have QB := hid b
           have HB := hid (HB.out.trans (h.mono HB.out.size))
           clear b h)
        | (refine wpList_store_whole rfl 39 _ _ rfl rfl v5.heap.size rfl (PaV.cells q1) rfl _ _ QB.out rfl Try.infoPa (PaV.one _) ?_
           intro v7 b g z
           have HB := hid (HB.out.trans (grown_below g (by omega) (by omega)))
           clear b g))
      go_ret
      exact ⟨rfl, HB.out⟩
  · subst hk1
    obtain ⟨k, rfl, hk2, hk3, hst, hsu, hpe, hD⟩ := susp_ok (f := cc) (c := c) (i := i) (by rw [HD1.out])
    rw [HD1.out] at hD
    simp only at hD
    subst hD
    have htw := susp_twice (f := cc) hk2 hk3 hst hpe
    have hre := resume_after hk2 hst hsu
    have HTw := hid htw
    have HRe := hid hre
    have HSm1 := hid (show ({ c with pr := c.pr.set k { c.pr.getD k Px.zero with su := true } } : Pa).small from ⟨HSm.out.me, by simpa using HSm.out.pr, HSm.out.bo, HSm.out.bu, HSm.out.se, HSm.out.ev, HSm.out.sa, HSm.out.qu, HSm.out.ll, HSm.out.gi, HSm.out.bol, HSm.out.bul, HSm.out.sel, HSm.out.evl, HSm.out.qul⟩)
    have HK2 := hid hk2
    clear htw hre hsu hpe hk3 HD1 HCode
    obtain ⟨D1, hD1⟩ : ∃ D : Pa, { c with pr := c.pr.set k { c.pr.getD k Px.zero with su := true } } = D := ⟨_, rfl⟩
    rw [hD1] at HO1 HTw HRe HSm1
    have HDD := hid hD1
    clear hD1
    go_wp2_with (first
      | (refine wpList_new rfl 39 rfl _ Try.zeroPa ?_
         intro v6 b h z
         have QB := hid b
         have PB := hid (show PaB v6 (w.heap.size + 1) q from BoxAt.belowAll PB.out h)
         have CB := hid (CB.out.belowAll h)
         have HO1 := hid (HO1.out.below h)
         have HB := hid (HB.out.trans (h.mono HB.out.size))
         clear b h)
      | (refine wpList_store_whole rfl 39 _ _ rfl rfl v5.heap.size rfl (PaV.cells q1) rfl _ _ QB.out rfl Try.infoPa (PaV.one _) ?_
         intro v7 b g z
         have HTu := hid (Turns.grown (S := fun t => t = 39) QB.out b rfl g)
         have QB := hid b
         have PB := hid (show PaB v7 (w.heap.size + 1) q from BoxAt.grown PB.out g (fun e => by have := Option.some.inj e; omega))
         have CB := hid (CB.out.grown g (fun e => by have := Option.some.inj e; omega))
         have HO1 := hid (HO1.out.turn HTu.out)
         have HB := hid (HB.out.trans (grown_below g (by omega) (by omega)))
         have hsz7 : v5.heap.size + 1 ≤ v7.heap.size := by omega
         clear b g HTu)
      | (refine wpList_load_box rfl 28 _ rfl w.heap.size rfl _ _ CB.out _ Try.underlying28 Try.infoPv ?_)
      | (refine wpList_load_box rfl 39 _ rfl v5.heap.size rfl _ _ QB.out _ Try.underlying39 Try.infoPa ?_)
      | fail)
    refine (suspend_api (i := (k : Int)) (HC.out.below HB.out) HO1.out.sees HSm1.out).mono ?_
    rintro e v8 ⟨q2, rfl, ho, hb⟩
    rw [HTw.out]
    have PB := hid (show PaB v8 (w.heap.size + 1) q from BoxAt.belowAll PB.out hb)
    have QB := hid (QB.out.belowAll hb)
    have HO1 := hid (HO1.out.below hb)
    have HB := hid (HB.out.trans (hb.mono HB.out.size))
    have hsz8 : v5.heap.size + 1 ≤ v8.heap.size := by have := hb.size; omega
    clear ho hb hsz7 CB
    go_wp2_with (first
      | (refine wpList_new rfl 39 rfl _ Try.zeroPa ?_
         intro v9 b h z
         have RB := hid b
         have PB := hid (show PaB v9 (w.heap.size + 1) q from BoxAt.belowAll PB.out h)
         have QB := hid (QB.out.belowAll h)
         have HO1 := hid (HO1.out.below h)
         have HB := hid (HB.out.trans (h.mono HB.out.size))
         clear b h)
      | (refine wpList_store_whole rfl 39 _ _ rfl rfl v8.heap.size rfl (PaV.cells q2) rfl _ _ RB.out rfl Try.infoPa (PaV.one _) ?_
         intro v10 b g z
         have HTu := hid (Turns.grown (S := fun t => t = 39) RB.out b rfl g)
         have PB := hid (show PaB v10 (w.heap.size + 1) q from BoxAt.grown PB.out g (fun e => by have := Option.some.inj e; omega))
         have QB := hid (QB.out.grown g (fun e => by have := Option.some.inj e; omega))
         have HO1 := hid (HO1.out.turn HTu.out)
         have HB := hid (HB.out.trans (grown_below g (by omega) (by omega)))
         have hsz10 : v8.heap.size + 1 ≤ v10.heap.size := by omega
         clear b g HTu)
      | (refine wpList_load_box rfl 39 _ rfl v5.heap.size rfl _ _ QB.out _ Try.underlying39 Try.infoPa ?_)
      | fail)
    refine (resume_api (i := (k : Int)) HO1.out.sees HSm1.out).mono ?_
    rintro e v11 ⟨q3, rfl, ho, hb⟩
    rw [HRe.out.1]
    have PB := hid (show PaB v11 (w.heap.size + 1) q from BoxAt.belowAll PB.out hb)
    have HO3 := hid ho
    have HB := hid (HB.out.trans (hb.mono HB.out.size))
    have hsz11 : v8.heap.size + 1 ≤ v11.heap.size := by have := hb.size; omega
    clear ho hb hsz10 QB HO1
    obtain ⟨r, hr⟩ : ∃ r, c.pr.getD k Px.zero = r := ⟨_, rfl⟩
    have hpr3 := HRe.out.2
    rw [hr] at hpr3 hst
    rw [List.set_set] at hpr3
    obtain ⟨b1, off, rfl, hbw, hpx⟩ := HPc.out (by omega)
    have HPA := hid (show PxAt v11 b1 (off + k * 18) r from fun j hj => (HB.out.cell (by exact hbw)).trans (by rw [hpx k HK2.out j hj, hr]))
    have hbv : b1 < v11.heap.size := by have := HB.out.size; omega
    have FA := hid trivial
    have FB := hid trivial
    clear hpx hr
    by_cases h1 : r.st = 1
    · have h3 := HO3.out.pr
      rw [hpr3, if_pos h1] at h3
      obtain ⟨y, hy⟩ : ∃ y : Px, { r with si := c.nx } = y := ⟨_, rfl⟩
      rw [hy] at h3
      have HYy := hid hy.symm
      obtain ⟨g3, cp3, hv3, _, hg3, _, _⟩ := OP.form h3 (by simp; omega)
      rw [List.length_set] at hv3
      have HV3 := hid hv3
      have HP3 := hid (show PxAt v11 g3 (k * 18) y by have h4 := h3; rw [hv3] at h4; have h5 := OP.at (L := c.pr.set k y) (by rw [List.length_set]; exact h4) k (by simp; exact HK2.out); rw [getD_set_self HK2.out] at h5; exact h5)
      clear h3 hv3 hpr3 hy
      go_wp2_with (first
        | (refine wpList_new rfl 39 rfl _ Try.zeroPa ?_
           intro v12 b h z
           have RB := hid b
           have PB := hid (show PaB v12 (w.heap.size + 1) q from BoxAt.belowAll PB.out h)
           have HP3 := hid (HP3.out.below h hg3)
           have HPA := hid (HPA.out.below h hbv)
           have HB := hid (HB.out.trans (h.mono HB.out.size))
           clear b h)
        | (refine wpList_store_whole rfl 39 _ _ rfl rfl v11.heap.size rfl (PaV.cells q3) rfl _ _ RB.out rfl Try.infoPa (PaV.one _) ?_
           intro v13 b g z
           have hb13 : Below v11.heap.size v12 v13 := grown_below g (Nat.le_refl _) (by omega)
           have RB := hid b
           have PB := hid (show PaB v13 (w.heap.size + 1) q from BoxAt.below PB.out hb13 (by omega))
           have HP3 := hid (HP3.out.below hb13 hg3)
           have HPA := hid (HPA.out.below hb13 hbv)
           have HB := hid (HB.out.trans (hb13.mono (by omega)))
           have k4 : v13.cell? ⟨w.heap.size + 1, 4, none⟩ = some (.slice (some ⟨b1, off, none⟩) c.pr.length cpp) := (BoxAt.cell PB.out 4).trans (by show some q.pr.val = _; rw [HPv.out])
           have k13 : v13.cell? ⟨v11.heap.size, 4, none⟩ = some (.slice (some ⟨g3, 0, none⟩) c.pr.length cp3) := (RB.out.cell 4).trans (by show some q3.pr.val = _; rw [HV3.out])
           have hsz13 : v11.heap.size + 1 ≤ v13.heap.size := by omega
           clear b g hb13 z)
        | (refine wpList_load_px rfl _ rfl b1 (off + k * 18) rfl r HPA.out ?_)
        | (have hA := FA.out
           refine wpList_new rfl 58 rfl _ Try.zeroPx ?_
           intro v14 b h z
           have XB := hid b
           have PB := hid (show PaB v14 (w.heap.size + 1) q from BoxAt.belowAll PB.out h)
           have RB := hid (RB.out.belowAll h)
           have HP3 := hid (HP3.out.below h (by omega))
           have HB := hid (HB.out.trans (h.mono HB.out.size))
           clear b h hA FA)
        | (refine wpList_store_whole rfl 58 _ _ rfl rfl v13.heap.size rfl (Px.cells r) rfl _ _ XB.out rfl Try.infoPx (Px.one _) ?_
           intro v15 b g z
           have hb15 : Below v13.heap.size v14 v15 := grown_below g (Nat.le_refl _) (by omega)
           have XB := hid b
           have PB := hid (show PaB v15 (w.heap.size + 1) q from BoxAt.below PB.out hb15 (by omega))
           have RB := hid (RB.out.below hb15 (by omega))
           have HP3 := hid (HP3.out.below hb15 (by omega))
           have HB := hid (HB.out.trans (hb15.mono (by omega)))
           have k13 : v15.cell? ⟨v11.heap.size, 4, none⟩ = some (.slice (some ⟨g3, 0, none⟩) c.pr.length cp3) := (RB.out.cell 4).trans (by show some q3.pr.val = _; rw [HV3.out])
           have hsz15 : v13.heap.size + 1 ≤ v15.heap.size := by omega
           clear b g hb15 z)
        | (refine wpList_load_px rfl _ rfl g3 (k * 18) rfl y HP3.out ?_)
        | (have hB := FB.out
           refine wpList_new rfl 58 rfl _ Try.zeroPx ?_
           intro v16 b h z
           have YB := hid b
           have PB := hid (show PaB v16 (w.heap.size + 1) q from BoxAt.belowAll PB.out h)
           have XB := hid (XB.out.belowAll h)
           have HB := hid (HB.out.trans (h.mono HB.out.size))
           clear b h hB FB)
        | (refine wpList_store_whole rfl 58 _ _ rfl rfl v15.heap.size rfl (Px.cells y) rfl _ _ YB.out rfl Try.infoPx (Px.one _) ?_
           intro v17 b g z
           have hb17 : Below v15.heap.size v16 v17 := grown_below g (Nat.le_refl _) (by omega)
           have YB := hid b
           have PB := hid (show PaB v17 (w.heap.size + 1) q from BoxAt.below PB.out hb17 (by omega))
           have XB := hid (XB.out.below hb17 (by omega))
           have HB := hid (HB.out.trans (hb17.mono (by omega)))
           have c15 : v17.cell? ⟨v13.heap.size, 0, none⟩ = some (.int .i64 r.st) := (XB.out.cell 0).trans rfl
           have kn : v17.cell? ⟨w.heap.size + 1, 2, none⟩ = some (.int .i64 c.nx) := (BoxAt.cell PB.out 2).trans (by rw [← HA.out.nx]; rfl)
           have hsz17 : v15.heap.size + 1 ≤ v17.heap.size := by omega
           clear b g hb17 z)
        | (refine wpList_store_box rfl 3 _ _ rfl rfl v13.heap.size 8 (.int .i64 c.nx) rfl rfl rfl rfl (by kernel_rfl) _ _ XB.out (by simp [Px.cells]) ?_
           intro v18 b g z
           have hb18 : Below v13.heap.size v17 v18 := grown_below g (Nat.le_refl _) (by omega)
           have XB := hid (show BoxAt v18 v13.heap.size 58 (Px.cells y).toArray by rw [HYy.out]; simpa [Px.cells] using b)
           have YB := hid (YB.out.grown g (fun e => by have := Option.some.inj e; omega))
           have HB := hid (HB.out.trans (hb18.mono (by omega)))
           clear b g hb18 z)
        | (refine wpList_wanted (by rfl) ?_
           refine wp_load_mid 58 (.tmp 15) rfl v13.heap.size 0 rfl (Px.cells y) _ (box_range XB.out) Try.underlying58 rfl Try.infoPx ?_)
        | (refine wpList_wanted (by rfl) ?_
           refine wp_load_mid 58 (.tmp 16) rfl v15.heap.size 0 rfl (Px.cells y) _ (box_range YB.out) Try.underlying58 rfl Try.infoPx ?_)
        | (refine wpList_wanted (by rfl) ?_
           refine wp_eql_px (.tmp 104) (.tmp 105) rfl y rfl rfl ?_)
        | fail)
      go_ret
      exact ⟨rfl, HB.out⟩
    · have h3 := HO3.out.pr
      rw [hpr3, if_neg h1] at h3
      obtain ⟨y, hy⟩ : ∃ y : Px, r = y := ⟨_, rfl⟩
      rw [hy] at h3
      have HYy := hid hy.symm
      obtain ⟨g3, cp3, hv3, _, hg3, _, _⟩ := OP.form h3 (by simp; omega)
      rw [List.length_set] at hv3
      have HV3 := hid hv3
      have HP3 := hid (show PxAt v11 g3 (k * 18) y by have h4 := h3; rw [hv3] at h4; have h5 := OP.at (L := c.pr.set k y) (by rw [List.length_set]; exact h4) k (by simp; exact HK2.out); rw [getD_set_self HK2.out] at h5; exact h5)
      clear h3 hv3 hpr3 hy
      have hb1 : (r.st == 1) = false := by simpa using h1
      go_wp2_with (first
        | (refine wpList_new rfl 39 rfl _ Try.zeroPa ?_
           intro v12 b h z
           have RB := hid b
           have PB := hid (show PaB v12 (w.heap.size + 1) q from BoxAt.belowAll PB.out h)
           have HP3 := hid (HP3.out.below h hg3)
           have HPA := hid (HPA.out.below h hbv)
           have HB := hid (HB.out.trans (h.mono HB.out.size))
           clear b h)
        | (refine wpList_store_whole rfl 39 _ _ rfl rfl v11.heap.size rfl (PaV.cells q3) rfl _ _ RB.out rfl Try.infoPa (PaV.one _) ?_
           intro v13 b g z
           have hb13 : Below v11.heap.size v12 v13 := grown_below g (Nat.le_refl _) (by omega)
           have RB := hid b
           have PB := hid (show PaB v13 (w.heap.size + 1) q from BoxAt.below PB.out hb13 (by omega))
           have HP3 := hid (HP3.out.below hb13 hg3)
           have HPA := hid (HPA.out.below hb13 hbv)
           have HB := hid (HB.out.trans (hb13.mono (by omega)))
           have k4 : v13.cell? ⟨w.heap.size + 1, 4, none⟩ = some (.slice (some ⟨b1, off, none⟩) c.pr.length cpp) := (BoxAt.cell PB.out 4).trans (by show some q.pr.val = _; rw [HPv.out])
           have k13 : v13.cell? ⟨v11.heap.size, 4, none⟩ = some (.slice (some ⟨g3, 0, none⟩) c.pr.length cp3) := (RB.out.cell 4).trans (by show some q3.pr.val = _; rw [HV3.out])
           have hsz13 : v11.heap.size + 1 ≤ v13.heap.size := by omega
           clear b g hb13 z)
        | (refine wpList_load_px rfl _ rfl b1 (off + k * 18) rfl r HPA.out ?_)
        | (have hA := FA.out
           refine wpList_new rfl 58 rfl _ Try.zeroPx ?_
           intro v14 b h z
           have XB := hid b
           have PB := hid (show PaB v14 (w.heap.size + 1) q from BoxAt.belowAll PB.out h)
           have RB := hid (RB.out.belowAll h)
           have HP3 := hid (HP3.out.below h (by omega))
           have HB := hid (HB.out.trans (h.mono HB.out.size))
           clear b h hA FA)
        | (refine wpList_store_whole rfl 58 _ _ rfl rfl v13.heap.size rfl (Px.cells r) rfl _ _ XB.out rfl Try.infoPx (Px.one _) ?_
           intro v15 b g z
           have hb15 : Below v13.heap.size v14 v15 := grown_below g (Nat.le_refl _) (by omega)
           have XB := hid b
           have PB := hid (show PaB v15 (w.heap.size + 1) q from BoxAt.below PB.out hb15 (by omega))
           have RB := hid (RB.out.below hb15 (by omega))
           have HP3 := hid (HP3.out.below hb15 (by omega))
           have HB := hid (HB.out.trans (hb15.mono (by omega)))
           have k13 : v15.cell? ⟨v11.heap.size, 4, none⟩ = some (.slice (some ⟨g3, 0, none⟩) c.pr.length cp3) := (RB.out.cell 4).trans (by show some q3.pr.val = _; rw [HV3.out])
           have hsz15 : v13.heap.size + 1 ≤ v15.heap.size := by omega
           clear b g hb15 z)
        | (refine wpList_load_px rfl _ rfl g3 (k * 18) rfl y HP3.out ?_)
        | (have hB := FB.out
           refine wpList_new rfl 58 rfl _ Try.zeroPx ?_
           intro v16 b h z
           have YB := hid b
           have PB := hid (show PaB v16 (w.heap.size + 1) q from BoxAt.belowAll PB.out h)
           have XB := hid (XB.out.belowAll h)
           have HB := hid (HB.out.trans (h.mono HB.out.size))
           clear b h hB FB)
        | (refine wpList_store_whole rfl 58 _ _ rfl rfl v15.heap.size rfl (Px.cells y) rfl _ _ YB.out rfl Try.infoPx (Px.one _) ?_
           intro v17 b g z
           have hb17 : Below v15.heap.size v16 v17 := grown_below g (Nat.le_refl _) (by omega)
           have YB := hid b
           have PB := hid (show PaB v17 (w.heap.size + 1) q from BoxAt.below PB.out hb17 (by omega))
           have XB := hid (XB.out.below hb17 (by omega))
           have HB := hid (HB.out.trans (hb17.mono (by omega)))
           have c15 : v17.cell? ⟨v13.heap.size, 0, none⟩ = some (.int .i64 r.st) := (XB.out.cell 0).trans rfl
           have kn : v17.cell? ⟨w.heap.size + 1, 2, none⟩ = some (.int .i64 c.nx) := (BoxAt.cell PB.out 2).trans (by rw [← HA.out.nx]; rfl)
           have XB := hid (show BoxAt v17 v13.heap.size 58 (Px.cells y).toArray by rw [HYy.out]; exact XB.out)
           have hsz17 : v15.heap.size + 1 ≤ v17.heap.size := by omega
           clear b g hb17 z)
        | (refine wpList_wanted (by rfl) ?_
           refine wp_load_mid 58 (.tmp 15) rfl v13.heap.size 0 rfl (Px.cells y) _ (box_range XB.out) Try.underlying58 rfl Try.infoPx ?_)
        | (refine wpList_wanted (by rfl) ?_
           refine wp_load_mid 58 (.tmp 16) rfl v15.heap.size 0 rfl (Px.cells y) _ (box_range YB.out) Try.underlying58 rfl Try.infoPx ?_)
        | (refine wpList_wanted (by rfl) ?_
           refine wp_eql_px (.tmp 104) (.tmp 105) rfl y rfl rfl ?_)
        | fail)
      go_ret
      exact ⟨rfl, HB.out⟩
end Go.Proofs.Ytfdalcfbhebloaa
