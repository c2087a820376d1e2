/-
  What the document's Period returns.
-/
import Derived.Test.YtdanfnbclbiidaaURef1
import Derived.Test.YtdanfnbclbiidaaU1
namespace Go.Proofs.Ytdanfnbclbiidaa
open Go.RowKit
set_option linter.unusedVariables false

set_option maxRecDepth 100000 in
set_option maxHeartbeats 6400000 in
theorem rperiod_any {qc : Pv} {cc : Pt} {q : PaV} {c : Pa} {w0 w : World} {i : Int} (hc : PtAt w0 qc cc) (ha : PaAt w0 q c) (h0 : Below w0.heap.size w0 w) (hsm : c.small) :
    Calls Try.prog 18 #[qc.val, q.val, .int .i64 i] w fun e w' => ∃ q', e = .returned (.tuple #[PaV.val q', .int .i64 (periodP cc c i).2]) ∧ PaS w0.heap.size w' q' (periodP cc c i).1 ∧ Below w.heap.size w w' := by
  have HA0 := hid ha
  have HA := hid (ha.below h0)
  have H0 := hid h0
  have h0s : w0.heap.size ≤ w.heap.size := h0.size
  have HSm := hid hsm
  have HB := hid (Below.refl w.heap.size w)
  obtain ⟨ap, cpp, hpv, hp1, hp2, hpcell⟩ := HA.out.pr.form
  have hmax : cpp ≤ 9223372036854775807 := hp2
  have HPv := hid hpv
  have HPc := hid hpcell
  clear ha h0 hsm hpv hp2 hpcell
  obtain ⟨ac, cpc, hcv, hc1, hc2, hccell⟩ := (hc.below H0.out).pc.form
  have hmaxc : cpc ≤ 9223372036854775807 := hc2
  have HCv := hid hcv
  have HCc := hid hccell
  clear hc hcv hc2 hccell
  go_enter Try.func18, Try.ntmps18
  have hNI := HSm.out.pr
  by_cases hp3 : i < 0
  · have d3 : decide (i < 0) = true := decide_eq_true hp3
    have HH := hid hp3
    have FL1 := hid trivial
    have FL2 := hid trivial
    have FL3 := hid trivial
    have FL4 := hid trivial
    go_wp2_with (first
      | (have hfl := FL1.out
         refine wpList_box rfl 28 (.tmp 0) rfl (Pv.cells qc).toArray rfl ?_
         intro v1 b h z
         have CB := hid (show BoxAt v1 w.heap.size 28 (Pv.cells qc).toArray from b)
         have HB := hid (HB.out.trans (h.mono HB.out.size))
         have hsv1 : w.heap.size + 1 ≤ v1.heap.size := by omega
         clear b h z hfl FL1)
      | (have hfl := FL2.out
         refine wpList_box rfl 39 (.tmp 1) rfl (PaV.cells q).toArray rfl ?_
         intro v2 b h z
         have PB := hid (show BoxAt v2 v1.heap.size 39 (PaV.cells q).toArray from b)
         have CB := hid (CB.out.belowAll h)
         have HB := hid (HB.out.trans (h.mono HB.out.size))
         have hsv2 : v1.heap.size + 1 ≤ v2.heap.size := by omega
         clear b h z hfl FL2)
      | (have hfl := FL3.out
         refine wpList_new rfl 39 rfl _ Try.zeroPa ?_
         intro v3 b h z
         have RB := hid (show BoxAt v3 v2.heap.size 39 (PaV.cells PaV.zero).toArray from b)
         have CB := hid (CB.out.belowAll h)
         have PB := hid (PB.out.belowAll h)
         have HB := hid (HB.out.trans (h.mono HB.out.size))
         have hsv3 : v2.heap.size + 1 ≤ v3.heap.size := by omega
         have kCB2 : v3.cell? ⟨w.heap.size, 2, none⟩ = some (.slice ac cc.pc.length cpc) := (BoxAt.cell CB.out 2).trans (by show some qc.v2.val = _; rw [HCv.out])
         have kPB4 : v3.cell? ⟨v1.heap.size, 4, none⟩ = some (.slice ap c.pr.length cpp) := (BoxAt.cell PB.out 4).trans (by show some q.pr.val = _; rw [HPv.out])
         clear b h z hfl FL3)
      | (with_reducible refine wpList_dst 26 rfl ?_
         refine wpList_load_box rfl 39 _ rfl v1.heap.size rfl _ _ PB.out _ Try.underlying39 Try.infoPa ?_)
      | (have hfl := FL4.out
         refine wpList_store_whole rfl 39 _ _ rfl rfl v2.heap.size rfl (PaV.cells q) rfl _ _ RB.out rfl Try.infoPa (PaV.one _) ?_
         intro v4 b g z
         have hsv4 : v3.heap.size ≤ v4.heap.size := by omega
         have RB := hid (show BoxAt v4 v2.heap.size 39 (PaV.cells q).toArray from b)
         have CB := hid (CB.out.grown g (fun e => by have := Option.some.inj e; omega))
         have PB := hid (PB.out.grown g (fun e => by have := Option.some.inj e; omega))
         have HB := hid (HB.out.trans (grown_below g (by omega) (by omega)))
         clear kCB2
         have kCB2 : v4.cell? ⟨w.heap.size, 2, none⟩ = some (.slice ac cc.pc.length cpc) := (BoxAt.cell CB.out 2).trans (by show some qc.v2.val = _; rw [HCv.out])
         clear kPB4
         have kPB4 : v4.cell? ⟨v1.heap.size, 4, none⟩ = some (.slice ap c.pr.length cpp) := (BoxAt.cell PB.out 4).trans (by show some q.pr.val = _; rw [HPv.out])
         clear b g z hfl FL4)
      | fail)
    refine bodyPost_ret (results_box_tmp rfl _ _ (v2.heap.size) 39 _ (0, 0) _ rfl RB.out Try.underlying39 rfl Try.infoPa) rfl ?_
    rw [show periodP cc c i = (c, 3) from by unfold periodP; rw [if_neg (fun h => by have := HH.out; omega)]]
    exact ⟨q, rfl, PaS.from HA0.out (H0.out.trans (HB.out.mono h0s)), HB.out⟩
  · have d3 : decide (i < 0) = false := decide_eq_false hp3
    by_cases hp2 : (c.pr.length : Int) ≤ i
    · have d2 : decide ((c.pr.length : Int) ≤ i) = true := decide_eq_true hp2
      have HH := hid hp2
      have FL5 := hid trivial
      have FL6 := hid trivial
      have FL7 := hid trivial
      have FL8 := hid trivial
      go_wp2_with (first
        | (have hfl := FL5.out
           refine wpList_box rfl 28 (.tmp 0) rfl (Pv.cells qc).toArray rfl ?_
           intro v5 b h z
           have CB := hid (show BoxAt v5 w.heap.size 28 (Pv.cells qc).toArray from b)
           have HB := hid (HB.out.trans (h.mono HB.out.size))
           have hsv5 : w.heap.size + 1 ≤ v5.heap.size := by omega
           clear b h z hfl FL5)
        | (have hfl := FL6.out
           refine wpList_box rfl 39 (.tmp 1) rfl (PaV.cells q).toArray rfl ?_
           intro v6 b h z
           have PB := hid (show BoxAt v6 v5.heap.size 39 (PaV.cells q).toArray from b)
           have CB := hid (CB.out.belowAll h)
           have HB := hid (HB.out.trans (h.mono HB.out.size))
           have hsv6 : v5.heap.size + 1 ≤ v6.heap.size := by omega
           clear b h z hfl FL6)
        | (have hfl := FL7.out
           refine wpList_new rfl 39 rfl _ Try.zeroPa ?_
           intro v7 b h z
           have RB := hid (show BoxAt v7 v6.heap.size 39 (PaV.cells PaV.zero).toArray from b)
           have CB := hid (CB.out.belowAll h)
           have PB := hid (PB.out.belowAll h)
           have HB := hid (HB.out.trans (h.mono HB.out.size))
           have hsv7 : v6.heap.size + 1 ≤ v7.heap.size := by omega
           have kCB2 : v7.cell? ⟨w.heap.size, 2, none⟩ = some (.slice ac cc.pc.length cpc) := (BoxAt.cell CB.out 2).trans (by show some qc.v2.val = _; rw [HCv.out])
           have kPB4 : v7.cell? ⟨v5.heap.size, 4, none⟩ = some (.slice ap c.pr.length cpp) := (BoxAt.cell PB.out 4).trans (by show some q.pr.val = _; rw [HPv.out])
           clear b h z hfl FL7)
        | (with_reducible refine wpList_dst 26 rfl ?_
           refine wpList_load_box rfl 39 _ rfl v5.heap.size rfl _ _ PB.out _ Try.underlying39 Try.infoPa ?_)
        | (have hfl := FL8.out
           refine wpList_store_whole rfl 39 _ _ rfl rfl v6.heap.size rfl (PaV.cells q) rfl _ _ RB.out rfl Try.infoPa (PaV.one _) ?_
           intro v8 b g z
           have hsv8 : v7.heap.size ≤ v8.heap.size := by omega
           have RB := hid (show BoxAt v8 v6.heap.size 39 (PaV.cells q).toArray from b)
           have CB := hid (CB.out.grown g (fun e => by have := Option.some.inj e; omega))
           have PB := hid (PB.out.grown g (fun e => by have := Option.some.inj e; omega))
           have HB := hid (HB.out.trans (grown_below g (by omega) (by omega)))
           clear kCB2
           have kCB2 : v8.cell? ⟨w.heap.size, 2, none⟩ = some (.slice ac cc.pc.length cpc) := (BoxAt.cell CB.out 2).trans (by show some qc.v2.val = _; rw [HCv.out])
           clear kPB4
           have kPB4 : v8.cell? ⟨v5.heap.size, 4, none⟩ = some (.slice ap c.pr.length cpp) := (BoxAt.cell PB.out 4).trans (by show some q.pr.val = _; rw [HPv.out])
           clear b g z hfl FL8)
        | fail)
      refine bodyPost_ret (results_box_tmp rfl _ _ (v6.heap.size) 39 _ (0, 0) _ rfl RB.out Try.underlying39 rfl Try.infoPa) rfl ?_
      rw [show periodP cc c i = (c, 3) from by unfold periodP; rw [if_neg (fun h => by have := HH.out; omega)]]
      exact ⟨q, rfl, PaS.from HA0.out (H0.out.trans (HB.out.mono h0s)), HB.out⟩
    · have d2 : decide ((c.pr.length : Int) ≤ i) = false := decide_eq_false hp2
      by_cases hp1 : (cc.pc.length : Int) ≤ i
      · have d1 : decide ((cc.pc.length : Int) ≤ i) = true := decide_eq_true hp1
        have HH := hid hp1
        have FL9 := hid trivial
        have FL10 := hid trivial
        have FL11 := hid trivial
        have FL12 := hid trivial
        go_wp2_with (first
          | (have hfl := FL9.out
             refine wpList_box rfl 28 (.tmp 0) rfl (Pv.cells qc).toArray rfl ?_
             intro v9 b h z
             have CB := hid (show BoxAt v9 w.heap.size 28 (Pv.cells qc).toArray from b)
             have HB := hid (HB.out.trans (h.mono HB.out.size))
             have hsv9 : w.heap.size + 1 ≤ v9.heap.size := by omega
             clear b h z hfl FL9)
          | (have hfl := FL10.out
             refine wpList_box rfl 39 (.tmp 1) rfl (PaV.cells q).toArray rfl ?_
             intro v10 b h z
             have PB := hid (show BoxAt v10 v9.heap.size 39 (PaV.cells q).toArray from b)
             have CB := hid (CB.out.belowAll h)
             have HB := hid (HB.out.trans (h.mono HB.out.size))
             have hsv10 : v9.heap.size + 1 ≤ v10.heap.size := by omega
             clear b h z hfl FL10)
          | (have hfl := FL11.out
             refine wpList_new rfl 39 rfl _ Try.zeroPa ?_
             intro v11 b h z
             have RB := hid (show BoxAt v11 v10.heap.size 39 (PaV.cells PaV.zero).toArray from b)
             have CB := hid (CB.out.belowAll h)
             have PB := hid (PB.out.belowAll h)
             have HB := hid (HB.out.trans (h.mono HB.out.size))
             have hsv11 : v10.heap.size + 1 ≤ v11.heap.size := by omega
             have kCB2 : v11.cell? ⟨w.heap.size, 2, none⟩ = some (.slice ac cc.pc.length cpc) := (BoxAt.cell CB.out 2).trans (by show some qc.v2.val = _; rw [HCv.out])
             have kPB4 : v11.cell? ⟨v9.heap.size, 4, none⟩ = some (.slice ap c.pr.length cpp) := (BoxAt.cell PB.out 4).trans (by show some q.pr.val = _; rw [HPv.out])
             clear b h z hfl FL11)
          | (with_reducible refine wpList_dst 26 rfl ?_
             refine wpList_load_box rfl 39 _ rfl v9.heap.size rfl _ _ PB.out _ Try.underlying39 Try.infoPa ?_)
          | (have hfl := FL12.out
             refine wpList_store_whole rfl 39 _ _ rfl rfl v10.heap.size rfl (PaV.cells q) rfl _ _ RB.out rfl Try.infoPa (PaV.one _) ?_
             intro v12 b g z
             have hsv12 : v11.heap.size ≤ v12.heap.size := by omega
             have RB := hid (show BoxAt v12 v10.heap.size 39 (PaV.cells q).toArray from b)
             have CB := hid (CB.out.grown g (fun e => by have := Option.some.inj e; omega))
             have PB := hid (PB.out.grown g (fun e => by have := Option.some.inj e; omega))
             have HB := hid (HB.out.trans (grown_below g (by omega) (by omega)))
             clear kCB2
             have kCB2 : v12.cell? ⟨w.heap.size, 2, none⟩ = some (.slice ac cc.pc.length cpc) := (BoxAt.cell CB.out 2).trans (by show some qc.v2.val = _; rw [HCv.out])
             clear kPB4
             have kPB4 : v12.cell? ⟨v9.heap.size, 4, none⟩ = some (.slice ap c.pr.length cpp) := (BoxAt.cell PB.out 4).trans (by show some q.pr.val = _; rw [HPv.out])
             clear b g z hfl FL12)
          | fail)
        refine bodyPost_ret (results_box_tmp rfl _ _ (v10.heap.size) 39 _ (0, 0) _ rfl RB.out Try.underlying39 rfl Try.infoPa) rfl ?_
        rw [show periodP cc c i = (c, 3) from by unfold periodP; rw [if_neg (fun h => by have := HH.out; omega)]]
        exact ⟨q, rfl, PaS.from HA0.out (H0.out.trans (HB.out.mono h0s)), HB.out⟩
      · have d1 : decide ((cc.pc.length : Int) ≤ i) = false := decide_eq_false hp1
        obtain ⟨k, hki⟩ : ∃ k : Nat, i = (k : Int) := ⟨i.toNat, by omega⟩
        subst hki
        have hk : k < c.pr.length := by omega
        have hkc : k < cc.pc.length := by omega
        have HT := hid (show 0 ≤ (k : Int) ∧ (k : Int) < c.pr.length ∧ (k : Int) < cc.pc.length by omega)
        have hkI : (k : Int) < (c.pr.length : Int) := by omega
        have hkM : (k : Int) < (cc.pc.length : Int) := by omega
        obtain ⟨b1, off, hap, hbw, hpx⟩ := HPc.out (by omega)
        subst hap
        have HP0 := hid (show PxAt w b1 (off + k * 18) (c.pr.getD k Px.zero) from fun j hj => hpx k hk j hj)
        clear hpx
        obtain ⟨r, hr⟩ : ∃ r, c.pr.getD k Px.zero = r := ⟨_, rfl⟩
        rw [hr] at HP0
        have HR := hid hr
        have HK := hid hk
        clear hr hk
        obtain ⟨b2, of2, hac, hcw, hccell⟩ := HCc.out (by omega)
        subst hac
        obtain ⟨f, hf⟩ : ∃ f, cc.pc.getD k Pc.zero = f := ⟨_, rfl⟩
        have HFc := hid (show w.cell? ⟨b2, of2 + k * 5 + 1, none⟩ = some (.int .i64 f.pe) from by rw [← hf]; exact hccell k hkc 1 (by decide))
        have HF := hid hf
        clear hf hccell HCc hkc
        by_cases hp : f.pe = 0
        · have t1 : (f.pe == 0) = true := by simpa using hp
          have HL := hid hp
          clear hp
          have FL13 := hid trivial
          have FL14 := hid trivial
          have FL15 := hid trivial
          have FL16 := hid trivial
          go_wp2_with (first
            | (have hfl := FL13.out
               refine wpList_box rfl 28 (.tmp 0) rfl (Pv.cells qc).toArray rfl ?_
               intro v13 b h z
               have CB := hid (show BoxAt v13 w.heap.size 28 (Pv.cells qc).toArray from b)
               have HB := hid (HB.out.trans (h.mono HB.out.size))
               have hsv13 : w.heap.size + 1 ≤ v13.heap.size := by omega
               have kL : v13.cell? ⟨b2, of2 + k * 5 + 1, none⟩ = some (.int .i64 f.pe) := (HB.out.cell (p := ⟨b2, of2 + k * 5 + 1, none⟩) hcw).trans HFc.out
               have kS : v13.cell? ⟨b1, off + k * 18, none⟩ = some (.int .i64 r.st) := (HP0.out.below HB.out hbw).st
               clear b h z hfl FL13)
            | (have hfl := FL14.out
               refine wpList_box rfl 39 (.tmp 1) rfl (PaV.cells q).toArray rfl ?_
               intro v14 b h z
               have PB := hid (show BoxAt v14 v13.heap.size 39 (PaV.cells q).toArray from b)
               have CB := hid (CB.out.belowAll h)
               have HB := hid (HB.out.trans (h.mono HB.out.size))
               have hsv14 : v13.heap.size + 1 ≤ v14.heap.size := by omega
               clear kL
               have kL : v14.cell? ⟨b2, of2 + k * 5 + 1, none⟩ = some (.int .i64 f.pe) := (HB.out.cell (p := ⟨b2, of2 + k * 5 + 1, none⟩) hcw).trans HFc.out
               clear kS
               have kS : v14.cell? ⟨b1, off + k * 18, none⟩ = some (.int .i64 r.st) := (HP0.out.below HB.out hbw).st
               clear b h z hfl FL14)
            | (have hfl := FL15.out
               refine wpList_new rfl 39 rfl _ Try.zeroPa ?_
               intro v15 b h z
               have RB := hid (show BoxAt v15 v14.heap.size 39 (PaV.cells PaV.zero).toArray from b)
               have CB := hid (CB.out.belowAll h)
               have PB := hid (PB.out.belowAll h)
               have HB := hid (HB.out.trans (h.mono HB.out.size))
               have hsv15 : v14.heap.size + 1 ≤ v15.heap.size := by omega
               have kCB2 : v15.cell? ⟨w.heap.size, 2, none⟩ = some (.slice (some ⟨b2, of2, none⟩) cc.pc.length cpc) := (BoxAt.cell CB.out 2).trans (by show some qc.v2.val = _; rw [HCv.out])
               have kPB4 : v15.cell? ⟨v13.heap.size, 4, none⟩ = some (.slice (some ⟨b1, off, none⟩) c.pr.length cpp) := (BoxAt.cell PB.out 4).trans (by show some q.pr.val = _; rw [HPv.out])
               clear kL
               have kL : v15.cell? ⟨b2, of2 + k * 5 + 1, none⟩ = some (.int .i64 f.pe) := (HB.out.cell (p := ⟨b2, of2 + k * 5 + 1, none⟩) hcw).trans HFc.out
               clear kS
               have kS : v15.cell? ⟨b1, off + k * 18, none⟩ = some (.int .i64 r.st) := (HP0.out.below HB.out hbw).st
               clear b h z hfl FL15)
            | (with_reducible refine wpList_dst 43 rfl ?_
               refine wpList_load_box rfl 39 _ rfl v13.heap.size rfl _ _ PB.out _ Try.underlying39 Try.infoPa ?_)
            | (have hfl := FL16.out
               refine wpList_store_whole rfl 39 _ _ rfl rfl v14.heap.size rfl (PaV.cells q) rfl _ _ RB.out rfl Try.infoPa (PaV.one _) ?_
               intro v16 b g z
               have hsv16 : v15.heap.size ≤ v16.heap.size := by omega
               have RB := hid (show BoxAt v16 v14.heap.size 39 (PaV.cells q).toArray from b)
               have CB := hid (CB.out.grown g (fun e => by have := Option.some.inj e; omega))
               have PB := hid (PB.out.grown g (fun e => by have := Option.some.inj e; omega))
               have HB := hid (HB.out.trans (grown_below g (by omega) (by omega)))
               clear kCB2
               have kCB2 : v16.cell? ⟨w.heap.size, 2, none⟩ = some (.slice (some ⟨b2, of2, none⟩) cc.pc.length cpc) := (BoxAt.cell CB.out 2).trans (by show some qc.v2.val = _; rw [HCv.out])
               clear kPB4
               have kPB4 : v16.cell? ⟨v13.heap.size, 4, none⟩ = some (.slice (some ⟨b1, off, none⟩) c.pr.length cpp) := (BoxAt.cell PB.out 4).trans (by show some q.pr.val = _; rw [HPv.out])
               clear kL
               have kL : v16.cell? ⟨b2, of2 + k * 5 + 1, none⟩ = some (.int .i64 f.pe) := (HB.out.cell (p := ⟨b2, of2 + k * 5 + 1, none⟩) hcw).trans HFc.out
               clear kS
               have kS : v16.cell? ⟨b1, off + k * 18, none⟩ = some (.int .i64 r.st) := (HP0.out.below HB.out hbw).st
               clear b g z hfl FL16)
            | fail)
          refine bodyPost_ret (results_box_tmp rfl _ _ (v14.heap.size) 39 _ (0, 0) _ rfl RB.out Try.underlying39 rfl Try.infoPa) rfl ?_
          rw [show periodP cc c (k : Int) = (c, 4) from by unfold periodP; rw [if_pos HT.out, if_pos (by rw [Int.toNat_natCast, HF.out]; exact .inl HL.out)]]
          exact ⟨q, rfl, PaS.from HA0.out (H0.out.trans (HB.out.mono h0s)), HB.out⟩
        · have t1 : (f.pe == 0) = false := by simpa using hp
          have HL := hid hp
          clear hp
          by_cases hst : r.st ≠ 1
          · have t2 : (r.st != 1) = true := by simpa using hst
            have HS := hid hst
            clear hst
            have FL17 := hid trivial
            have FL18 := hid trivial
            have FL19 := hid trivial
            have FL20 := hid trivial
            go_wp2_with (first
              | (have hfl := FL17.out
                 refine wpList_box rfl 28 (.tmp 0) rfl (Pv.cells qc).toArray rfl ?_
                 intro v17 b h z
                 have CB := hid (show BoxAt v17 w.heap.size 28 (Pv.cells qc).toArray from b)
                 have HB := hid (HB.out.trans (h.mono HB.out.size))
                 have hsv17 : w.heap.size + 1 ≤ v17.heap.size := by omega
                 have kL : v17.cell? ⟨b2, of2 + k * 5 + 1, none⟩ = some (.int .i64 f.pe) := (HB.out.cell (p := ⟨b2, of2 + k * 5 + 1, none⟩) hcw).trans HFc.out
                 have kS : v17.cell? ⟨b1, off + k * 18, none⟩ = some (.int .i64 r.st) := (HP0.out.below HB.out hbw).st
                 clear b h z hfl FL17)
              | (have hfl := FL18.out
                 refine wpList_box rfl 39 (.tmp 1) rfl (PaV.cells q).toArray rfl ?_
                 intro v18 b h z
                 have PB := hid (show BoxAt v18 v17.heap.size 39 (PaV.cells q).toArray from b)
                 have CB := hid (CB.out.belowAll h)
                 have HB := hid (HB.out.trans (h.mono HB.out.size))
                 have hsv18 : v17.heap.size + 1 ≤ v18.heap.size := by omega
                 clear kL
                 have kL : v18.cell? ⟨b2, of2 + k * 5 + 1, none⟩ = some (.int .i64 f.pe) := (HB.out.cell (p := ⟨b2, of2 + k * 5 + 1, none⟩) hcw).trans HFc.out
                 clear kS
                 have kS : v18.cell? ⟨b1, off + k * 18, none⟩ = some (.int .i64 r.st) := (HP0.out.below HB.out hbw).st
                 clear b h z hfl FL18)
              | (have hfl := FL19.out
                 refine wpList_new rfl 39 rfl _ Try.zeroPa ?_
                 intro v19 b h z
                 have RB := hid (show BoxAt v19 v18.heap.size 39 (PaV.cells PaV.zero).toArray from b)
                 have CB := hid (CB.out.belowAll h)
                 have PB := hid (PB.out.belowAll h)
                 have HB := hid (HB.out.trans (h.mono HB.out.size))
                 have hsv19 : v18.heap.size + 1 ≤ v19.heap.size := by omega
                 have kCB2 : v19.cell? ⟨w.heap.size, 2, none⟩ = some (.slice (some ⟨b2, of2, none⟩) cc.pc.length cpc) := (BoxAt.cell CB.out 2).trans (by show some qc.v2.val = _; rw [HCv.out])
                 have kPB4 : v19.cell? ⟨v17.heap.size, 4, none⟩ = some (.slice (some ⟨b1, off, none⟩) c.pr.length cpp) := (BoxAt.cell PB.out 4).trans (by show some q.pr.val = _; rw [HPv.out])
                 clear kL
                 have kL : v19.cell? ⟨b2, of2 + k * 5 + 1, none⟩ = some (.int .i64 f.pe) := (HB.out.cell (p := ⟨b2, of2 + k * 5 + 1, none⟩) hcw).trans HFc.out
                 clear kS
                 have kS : v19.cell? ⟨b1, off + k * 18, none⟩ = some (.int .i64 r.st) := (HP0.out.below HB.out hbw).st
                 clear b h z hfl FL19)
              | (with_reducible refine wpList_dst 43 rfl ?_
                 refine wpList_load_box rfl 39 _ rfl v17.heap.size rfl _ _ PB.out _ Try.underlying39 Try.infoPa ?_)
              | (have hfl := FL20.out
                 refine wpList_store_whole rfl 39 _ _ rfl rfl v18.heap.size rfl (PaV.cells q) rfl _ _ RB.out rfl Try.infoPa (PaV.one _) ?_
                 intro v20 b g z
                 have hsv20 : v19.heap.size ≤ v20.heap.size := by omega
                 have RB := hid (show BoxAt v20 v18.heap.size 39 (PaV.cells q).toArray from b)
                 have CB := hid (CB.out.grown g (fun e => by have := Option.some.inj e; omega))
                 have PB := hid (PB.out.grown g (fun e => by have := Option.some.inj e; omega))
                 have HB := hid (HB.out.trans (grown_below g (by omega) (by omega)))
                 clear kCB2
                 have kCB2 : v20.cell? ⟨w.heap.size, 2, none⟩ = some (.slice (some ⟨b2, of2, none⟩) cc.pc.length cpc) := (BoxAt.cell CB.out 2).trans (by show some qc.v2.val = _; rw [HCv.out])
                 clear kPB4
                 have kPB4 : v20.cell? ⟨v17.heap.size, 4, none⟩ = some (.slice (some ⟨b1, off, none⟩) c.pr.length cpp) := (BoxAt.cell PB.out 4).trans (by show some q.pr.val = _; rw [HPv.out])
                 clear kL
                 have kL : v20.cell? ⟨b2, of2 + k * 5 + 1, none⟩ = some (.int .i64 f.pe) := (HB.out.cell (p := ⟨b2, of2 + k * 5 + 1, none⟩) hcw).trans HFc.out
                 clear kS
                 have kS : v20.cell? ⟨b1, off + k * 18, none⟩ = some (.int .i64 r.st) := (HP0.out.below HB.out hbw).st
                 clear b g z hfl FL20)
              | fail)
            refine bodyPost_ret (results_box_tmp rfl _ _ (v18.heap.size) 39 _ (0, 0) _ rfl RB.out Try.underlying39 rfl Try.infoPa) rfl ?_
            rw [show periodP cc c (k : Int) = (c, 4) from by unfold periodP; rw [if_pos HT.out, if_pos (by rw [Int.toNat_natCast, HR.out]; exact .inr HS.out)]]
            exact ⟨q, rfl, PaS.from HA0.out (H0.out.trans (HB.out.mono h0s)), HB.out⟩
          · have hs1 : r.st = 1 := Decidable.not_not.1 hst
            have t2 : (r.st != 1) = false := by simpa using hs1
            have HS := hid hs1
            clear hst hs1
            have FL21 := hid trivial
            have FL22 := hid trivial
            have FL23 := hid trivial
            go_wp2_with (first
              | (have hfl := FL21.out
                 refine wpList_box rfl 28 (.tmp 0) rfl (Pv.cells qc).toArray rfl ?_
                 intro v21 b h z
                 have CB := hid (show BoxAt v21 w.heap.size 28 (Pv.cells qc).toArray from b)
                 have HB := hid (HB.out.trans (h.mono HB.out.size))
                 have hsv21 : w.heap.size + 1 ≤ v21.heap.size := by omega
                 have kL : v21.cell? ⟨b2, of2 + k * 5 + 1, none⟩ = some (.int .i64 f.pe) := (HB.out.cell (p := ⟨b2, of2 + k * 5 + 1, none⟩) hcw).trans HFc.out
                 have kS : v21.cell? ⟨b1, off + k * 18, none⟩ = some (.int .i64 r.st) := (HP0.out.below HB.out hbw).st
                 clear b h z hfl FL21)
              | (have hfl := FL22.out
                 refine wpList_box rfl 39 (.tmp 1) rfl (PaV.cells q).toArray rfl ?_
                 intro v22 b h z
                 have PB := hid (show BoxAt v22 v21.heap.size 39 (PaV.cells q).toArray from b)
                 have CB := hid (CB.out.belowAll h)
                 have HB := hid (HB.out.trans (h.mono HB.out.size))
                 have hsv22 : v21.heap.size + 1 ≤ v22.heap.size := by omega
                 clear kL
                 have kL : v22.cell? ⟨b2, of2 + k * 5 + 1, none⟩ = some (.int .i64 f.pe) := (HB.out.cell (p := ⟨b2, of2 + k * 5 + 1, none⟩) hcw).trans HFc.out
                 clear kS
                 have kS : v22.cell? ⟨b1, off + k * 18, none⟩ = some (.int .i64 r.st) := (HP0.out.below HB.out hbw).st
                 clear b h z hfl FL22)
              | (have hfl := FL23.out
                 refine wpList_new rfl 39 rfl _ Try.zeroPa ?_
                 intro v23 b h z
                 have RB := hid (show BoxAt v23 v22.heap.size 39 (PaV.cells PaV.zero).toArray from b)
                 have CB := hid (CB.out.belowAll h)
                 have PB := hid (PB.out.belowAll h)
                 have HB := hid (HB.out.trans (h.mono HB.out.size))
                 have hsv23 : v22.heap.size + 1 ≤ v23.heap.size := by omega
                 have kCB2 : v23.cell? ⟨w.heap.size, 2, none⟩ = some (.slice (some ⟨b2, of2, none⟩) cc.pc.length cpc) := (BoxAt.cell CB.out 2).trans (by show some qc.v2.val = _; rw [HCv.out])
                 have kPB4 : v23.cell? ⟨v21.heap.size, 4, none⟩ = some (.slice (some ⟨b1, off, none⟩) c.pr.length cpp) := (BoxAt.cell PB.out 4).trans (by show some q.pr.val = _; rw [HPv.out])
                 clear kL
                 have kL : v23.cell? ⟨b2, of2 + k * 5 + 1, none⟩ = some (.int .i64 f.pe) := (HB.out.cell (p := ⟨b2, of2 + k * 5 + 1, none⟩) hcw).trans HFc.out
                 clear kS
                 have kS : v23.cell? ⟨b1, off + k * 18, none⟩ = some (.int .i64 r.st) := (HP0.out.below HB.out hbw).st
                 clear b h z hfl FL23)
              | fail)
            clear t1 t2 kL kS kPB4 kCB2
            have PB := hid (BoxAt.drew PB.out)
            have RB := hid (BoxAt.drew RB.out)
            have HB := hid HB.out.drew
            have hds : v23.drew.heap.size = v23.heap.size := rfl
            have hd1 : v22.heap.size + 1 ≤ v23.drew.heap.size := by omega
            have hN9 := HSm.out.pr
            clear hds
            refine wp_region_held_drew (S := (fun W => BoxAt W v21.heap.size 39 (PaV.cells q).toArray ∧ W.cell? ⟨b1, off + k * 18 + 13, none⟩ = some (.int .i64 r.ne))) (by kernel_rfl) (⟨PB.out, HP0.out.below HB.out hbw 13 (by decide)⟩) (fun hHeld => ?_)
            refine wpAnyH_take (i := 0) (oi := { dst := some 44, op := Op.load 39 (Operand.tmp 4), type := 39, pos := "ref.go:66", after := #[], guard := none }) (v := ?_) rfl (by kernel_rfl) (by kernel_rfl) (by kernel_rfl) (fun _ _ _ h => h) (Or.inl ⟨by rfl, ?_⟩) (by assumption) ?_
            rotate_left
            · (intro W hSw; refine box_yields 39 (.tmp 4) ?_ (v21.heap.size) ?_ (PaV.cells q) 39 _ Try.underlying39 Try.infoPa hSw.1 <;> rfl)
            simp only [Act.put, List.setIfInBounds_toArray, List.set_cons_zero, List.set_cons_succ]
            refine wpAnyH_take (i := 1) (oi := { dst := some 45, op := Op.move (Operand.tmp 2), type := 3, pos := "ref.go:66", after := #[], guard := none }) (v := ?_) rfl (by kernel_rfl) (by kernel_rfl) (by kernel_rfl) (fun _ _ _ h => h) (Or.inl ⟨by rfl, ?_⟩) (by assumption) ?_
            rotate_left
            · (intro w hSw; (try dsimp only at hSw); go_simp; try with_reducible rfl)
            simp only [Act.put, List.setIfInBounds_toArray, List.set_cons_zero, List.set_cons_succ]
            refine wpAnyH_take (i := 2) (oi := { dst := some 46, op := Op.fieldAddr 39 (Operand.tmp 4) 4, type := 0, pos := "ref.go:66", after := #[], guard := none }) (v := ?_) rfl (by kernel_rfl) (by kernel_rfl) (by kernel_rfl) (fun _ _ _ h => h) (Or.inl ⟨by rfl, ?_⟩) (by assumption) ?_
            rotate_left
            · (intro w hSw; (try dsimp only at hSw); go_simp; try with_reducible rfl)
            simp only [Act.put, List.setIfInBounds_toArray, List.set_cons_zero, List.set_cons_succ]
            refine wpAnyH_take (i := 3) (oi := { dst := some 47, op := Op.load 29 (Operand.tmp 46), type := 29, pos := "ref.go:66", after := #[{ on := 2, ground := Ground.data }], guard := none }) (v := ?_) rfl (by kernel_rfl) (by kernel_rfl) (by kernel_rfl) (fun _ _ _ h => h) (Or.inl ⟨by rfl, ?_⟩) (by assumption) ?_
            rotate_left
            · (intro W hSw; have c4 : W.cell? ⟨v21.heap.size, 4, none⟩ = some (.slice (some ⟨b1, off, none⟩) c.pr.length cpp) := (BoxAt.cell hSw.1 4).trans (by show some q.pr.val = _; rw [HPv.out]); clear hSw; go_simp; try with_reducible rfl)
            simp only [Act.put, List.setIfInBounds_toArray, List.set_cons_zero, List.set_cons_succ]
            refine wpAnyH_take (i := 4) (oi := { dst := some 48, op := Op.move (Operand.tmp 2), type := 3, pos := "ref.go:66", after := #[], guard := none }) (v := ?_) rfl (by kernel_rfl) (by kernel_rfl) (by kernel_rfl) (fun _ _ _ h => h) (Or.inl ⟨by rfl, ?_⟩) (by assumption) ?_
            rotate_left
            · (intro w hSw; (try dsimp only at hSw); go_simp; try with_reducible rfl)
            simp only [Act.put, List.setIfInBounds_toArray, List.set_cons_zero, List.set_cons_succ]
            refine wpAnyH_take (i := 5) (oi := { dst := some 49, op := Op.indexAddr 29 (Operand.tmp 47) (Operand.tmp 48), type := 0, pos := "ref.go:66", after := #[{ on := 3, ground := Ground.data }, { on := 4, ground := Ground.data }], guard := none }) (v := ?_) rfl (by kernel_rfl) (by kernel_rfl) (by kernel_rfl) (fun _ _ _ h => h) (Or.inl ⟨by rfl, ?_⟩) (by assumption) ?_
            rotate_left
            · (intro w hSw; (try dsimp only at hSw); go_simp; try with_reducible rfl)
            simp only [Act.put, List.setIfInBounds_toArray, List.set_cons_zero, List.set_cons_succ]
            refine wpAnyH_take (i := 6) (oi := { dst := some 50, op := Op.fieldAddr 57 (Operand.tmp 49) 9, type := 0, pos := "ref.go:66", after := #[{ on := 5, ground := Ground.data }], guard := none }) (v := ?_) rfl (by kernel_rfl) (by kernel_rfl) (by kernel_rfl) (fun _ _ _ h => h) (Or.inl ⟨by rfl, ?_⟩) (by assumption) ?_
            rotate_left
            · (intro w hSw; (try dsimp only at hSw); go_simp; try with_reducible rfl)
            simp only [Act.put, List.setIfInBounds_toArray, List.set_cons_zero, List.set_cons_succ]
            refine wpAnyH_take (i := 7) (oi := { dst := some 51, op := Op.load 3 (Operand.tmp 50), type := 3, pos := "ref.go:66", after := #[{ on := 6, ground := Ground.data }], guard := none }) (v := ?_) rfl (by kernel_rfl) (by kernel_rfl) (by kernel_rfl) (fun _ _ _ h => h) (Or.inl ⟨by rfl, ?_⟩) (by assumption) ?_
            rotate_left
            · (intro W hSw; have c4 := hSw.2; clear hSw; go_simp; try with_reducible rfl)
            simp only [Act.put, List.setIfInBounds_toArray, List.set_cons_zero, List.set_cons_succ]
            refine wpAnyH_ready (rs := [8, 9]) (by kernel_rfl) (by simp) (AllReadyH.cons (o := { dst := some 52, op := Op.call { callee := Callee.value (Operand.func 42), args := #[Operand.tmp 44, Operand.tmp 45, Operand.const (Value.int IntKind.i64 2), Operand.const (Value.int IntKind.i64 0), Operand.tmp 51, Operand.const (Value.int IntKind.i64 6)], argTypes := #[39, 3, 3, 3, 3, 3] }, type := 39, pos := "ref.go:66", after := #[{ on := 0, ground := Ground.data }, { on := 1, ground := Ground.data }, { on := 7, ground := Ground.data }], guard := none }) rfl (fun K509 hK509 => ?b509_8) (AllReadyH.cons (o := { dst := some 8, op := Op.alloc 39, type := 0, pos := "ref.go:66", after := #[], guard := none }) rfl (fun K509 hK509 => ?b509_9) AllReadyH.nil))
            case' b509_8 =>
              go_simp
              refine (rblock_any (i := (k : Int)) (ki := 2) (ob := 0) (un := r.ne) (ca := 6) HA0.out (H0.out.trans (HB.out.mono h0s)) HSm.out).mono ?_
              rintro e xC ⟨q2, rfl, ho, hb⟩
              have HO := hid ho
              have PB := hid (PB.out.belowAll hb)
              have RB := hid (RB.out.belowAll hb)
              have HB := hid (HB.out.trans (hb.mono HB.out.size))
              have hzxC : v23.drew.heap.size ≤ xC.heap.size := hb.size
              clear ho hb
              refine hK509.out _ _ (⟨PB.out, HP0.out.below HB.out hbw 13 (by decide)⟩) (fun hHeld509 => ?_)
              clear hK509 K509
              try simp only [Act.put, List.setIfInBounds_toArray, List.set_cons_zero, List.set_cons_succ]
              refine wpAnyH_ready (rs := [9]) (by kernel_rfl) (by simp) (AllReadyH.cons (o := { dst := some 8, op := Op.alloc 39, type := 0, pos := "ref.go:66", after := #[], guard := none }) rfl (fun K510 hK510 => ?_) AllReadyH.nil)
              refine wp_new 39 rfl _ Try.zeroPa ?_
              intro xA bx hb hz
              have QB := hid (show BoxAt xA xC.heap.size 39 (PaV.cells PaV.zero).toArray from bx)
              have PB := hid (PB.out.belowAll hb)
              have RB := hid (RB.out.belowAll hb)
              have HO := hid (HO.out.below (by omega) hb)
              have HB := hid (HB.out.trans (hb.mono HB.out.size))
              have hzxA : xC.heap.size + 1 ≤ xA.heap.size := by omega
              clear bx hb hz
              refine hK510.out _ _ (⟨PB.out, HP0.out.below HB.out hbw 13 (by decide)⟩) (fun hHeld510 => ?_)
              clear hK510 K510
              try simp only [Act.put, List.setIfInBounds_toArray, List.set_cons_zero, List.set_cons_succ]
              refine wpAnyH_ready (rs := [10]) (by kernel_rfl) (by simp) (AllReadyH.cons (o := { dst := none, op := Op.store 39 (Operand.tmp 8) (Operand.tmp 52), type := 0, pos := "ref.go:66", after := #[{ on := 9, ground := Ground.data }, { on := 8, ground := Ground.data }, { on := 8, ground := Ground.chain }, { on := 0, ground := Ground.phase }, { on := 1, ground := Ground.phase }, { on := 2, ground := Ground.phase }, { on := 3, ground := Ground.phase }, { on := 4, ground := Ground.phase }, { on := 5, ground := Ground.phase }, { on := 6, ground := Ground.phase }, { on := 7, ground := Ground.phase }, { on := 8, ground := Ground.phase }, { on := 9, ground := Ground.phase }], guard := none }) rfl (fun K511 hK511 => ?_) AllReadyH.nil)
              refine wp_store_whole 39 _ _ rfl xC.heap.size rfl (PaV.cells q2) rfl _ _ QB.out rfl Try.infoPa (PaV.one _) ?_
              intro xS b g hz
              have HO := hid (HO.out.put (by omega) (by omega) g QB.out b)
              have QB := hid (show BoxAt xS xC.heap.size 39 (PaV.cells q2).toArray from b)
              have PB := hid (PB.out.grown g (fun e => by have := Option.some.inj e; omega))
              have RB := hid (RB.out.grown g (fun e => by have := Option.some.inj e; omega))
              have HB := hid (HB.out.trans (grown_below g (by omega) (by omega)))
              have hzxS : xA.heap.size ≤ xS.heap.size := by omega
              have hqxS : v22.heap.size + 1 ≤ xC.heap.size ∧ xC.heap.size < xS.heap.size := by have := QB.out.lt; omega
              clear b g hz
              refine hK511.out _ _ (⟨PB.out, HP0.out.below HB.out hbw 13 (by decide)⟩) (fun hHeld511 => ?_)
              clear hK511 K511
              try simp only [Act.put]
              refine wpAnyH_done (by kernel_rfl) ?_ _
              clear hHeld hHeld509 hHeld510 hHeld511
              clear hzxC hzxA hzxS
              generalize xC.heap.size = QBa at *
            case' b509_9 =>
              refine wp_new 39 rfl _ Try.zeroPa ?_
              intro xA bx hb hz
              have QB := hid (show BoxAt xA v23.drew.heap.size 39 (PaV.cells PaV.zero).toArray from bx)
              have PB := hid (PB.out.belowAll hb)
              have RB := hid (RB.out.belowAll hb)
              have HB := hid (HB.out.trans (hb.mono HB.out.size))
              have hzxA : v23.drew.heap.size + 1 ≤ xA.heap.size := by omega
              clear bx hb hz
              refine hK509.out _ _ (⟨PB.out, HP0.out.below HB.out hbw 13 (by decide)⟩) (fun hHeld509 => ?_)
              clear hK509 K509
              try simp only [Act.put, List.setIfInBounds_toArray, List.set_cons_zero, List.set_cons_succ]
              refine wpAnyH_ready (rs := [8]) (by kernel_rfl) (by simp) (AllReadyH.cons (o := { dst := some 52, op := Op.call { callee := Callee.value (Operand.func 42), args := #[Operand.tmp 44, Operand.tmp 45, Operand.const (Value.int IntKind.i64 2), Operand.const (Value.int IntKind.i64 0), Operand.tmp 51, Operand.const (Value.int IntKind.i64 6)], argTypes := #[39, 3, 3, 3, 3, 3] }, type := 39, pos := "ref.go:66", after := #[{ on := 0, ground := Ground.data }, { on := 1, ground := Ground.data }, { on := 7, ground := Ground.data }], guard := none }) rfl (fun K512 hK512 => ?_) AllReadyH.nil)
              go_simp
              refine (rblock_any (i := (k : Int)) (ki := 2) (ob := 0) (un := r.ne) (ca := 6) HA0.out (H0.out.trans (HB.out.mono h0s)) HSm.out).mono ?_
              rintro e xC ⟨q2, rfl, ho, hb⟩
              have HO := hid ho
              have PB := hid (PB.out.belowAll hb)
              have RB := hid (RB.out.belowAll hb)
              have QB := hid (QB.out.belowAll hb)
              have HB := hid (HB.out.trans (hb.mono HB.out.size))
              have hzxC : xA.heap.size ≤ xC.heap.size := hb.size
              clear ho hb
              refine hK512.out _ _ (⟨PB.out, HP0.out.below HB.out hbw 13 (by decide)⟩) (fun hHeld512 => ?_)
              clear hK512 K512
              try simp only [Act.put, List.setIfInBounds_toArray, List.set_cons_zero, List.set_cons_succ]
              refine wpAnyH_ready (rs := [10]) (by kernel_rfl) (by simp) (AllReadyH.cons (o := { dst := none, op := Op.store 39 (Operand.tmp 8) (Operand.tmp 52), type := 0, pos := "ref.go:66", after := #[{ on := 9, ground := Ground.data }, { on := 8, ground := Ground.data }, { on := 8, ground := Ground.chain }, { on := 0, ground := Ground.phase }, { on := 1, ground := Ground.phase }, { on := 2, ground := Ground.phase }, { on := 3, ground := Ground.phase }, { on := 4, ground := Ground.phase }, { on := 5, ground := Ground.phase }, { on := 6, ground := Ground.phase }, { on := 7, ground := Ground.phase }, { on := 8, ground := Ground.phase }, { on := 9, ground := Ground.phase }], guard := none }) rfl (fun K513 hK513 => ?_) AllReadyH.nil)
              refine wp_store_whole 39 _ _ rfl v23.drew.heap.size rfl (PaV.cells q2) rfl _ _ QB.out rfl Try.infoPa (PaV.one _) ?_
              intro xS b g hz
              have HO := hid (HO.out.put (by omega) (by omega) g QB.out b)
              have QB := hid (show BoxAt xS v23.drew.heap.size 39 (PaV.cells q2).toArray from b)
              have PB := hid (PB.out.grown g (fun e => by have := Option.some.inj e; omega))
              have RB := hid (RB.out.grown g (fun e => by have := Option.some.inj e; omega))
              have HB := hid (HB.out.trans (grown_below g (by omega) (by omega)))
              have hzxS : xC.heap.size ≤ xS.heap.size := by omega
              have hqxS : v22.heap.size + 1 ≤ v23.drew.heap.size ∧ v23.drew.heap.size < xS.heap.size := by have := QB.out.lt; omega
              clear b g hz
              refine hK513.out _ _ (⟨PB.out, HP0.out.below HB.out hbw 13 (by decide)⟩) (fun hHeld513 => ?_)
              clear hK513 K513
              try simp only [Act.put]
              refine wpAnyH_done (by kernel_rfl) ?_ _
              clear hHeld hHeld509 hHeld512 hHeld513
              clear hzxC hzxA hzxS
              generalize hQa : v23.drew.heap.size = QBa at *
              rw [show v23.heap.size = QBa from hQa]
              clear hQa
            all_goals
              obtain ⟨hq1, hq2⟩ := hqxS
              obtain ⟨y, hy⟩ : ∃ y : Px, { r with st := 2, ki := 2, ob := 0, un := r.ne, ca := 6 } = y := ⟨_, rfl⟩
              have HY := hid hy
              clear hy
              have HBk := hid (show blockP c (k : Int) 2 0 r.ne 6 = { c with pr := c.pr.set k y } from by unfold blockP; rw [deed_does HK.out _ (y := y) (by unfold blockD; rw [HR.out, if_pos HS.out, HY.out])])
              obtain ⟨C2, hC2⟩ : ∃ C2 : Pa, { c with pr := c.pr.set k y } = C2 := ⟨_, rfl⟩
              rw [HBk.out, hC2] at HO
              have HC2 := hid hC2
              have HK2 := hid (show k < C2.pr.length by rw [← hC2]; simpa using HK.out)
              have HR2 := hid (show C2.pr.getD k Px.zero = y by rw [← hC2]; exact getD_set_self HK.out _)
              have HL2 := hid (show C2.pr.length ≤ 900000 by rw [← hC2]; simpa using HSm.out.pr)
              clear hC2
              obtain ⟨a3, cp3, hv3, _, hm3, hcell3⟩ := HO.out.at.pr.form
              obtain ⟨b3, of3, ha3, hb3, hpx3⟩ := hcell3 (by have := HK2.out; omega)
              subst ha3
              have HV3 := hid hv3
              have HP3 := hid (show PxAt xS b3 (of3 + k * 18) y from by rw [← HR2.out]; exact fun j hj => hpx3 k HK2.out j hj)
              have hk2 : (k : Int) < (C2.pr.length : Int) := by have := HK2.out; omega
              clear hv3 hpx3 hcell3
              have kQB4 : xS.cell? ⟨QBa, 4, none⟩ = some (.slice (some ⟨b3, of3, none⟩) C2.pr.length cp3) := (BoxAt.cell QB.out 4).trans (by show some q2.pr.val = _; rw [HV3.out])
              obtain ⟨x1, hx1⟩ : ∃ x : Px, { y with du := -1 } = x := ⟨_, rfl⟩
              have HX1 := hid hx1
              clear hx1
              have HV := hid (Below.refl xS.heap.size xS)
              have FL24 := hid trivial
              have FL25 := hid trivial
              have FL26 := hid trivial
              go_wp2_with (first
                | (refine wpList_load_px rfl _ rfl b3 (of3 + k * 18) rfl y HP3.out ?_)
                | (have hfl := FL24.out
                   refine wpList_new rfl 57 rfl _ Try.zeroPx ?_
                   intro v24 b h z
                   have XB := hid (show BoxAt v24 xS.heap.size 57 (Px.cells Px.zero).toArray from b)
                   have PB := hid (PB.out.belowAll h)
                   have RB := hid (RB.out.belowAll h)
                   have QB := hid (QB.out.belowAll h)
                   have HV := hid (HV.out.trans (h.mono HV.out.size))
                   have HB := hid (HB.out.trans (h.mono HB.out.size))
                   have hsv24 : xS.heap.size + 1 ≤ v24.heap.size := by omega
                   clear b h z hfl FL24)
                | (have hfl := FL25.out
                   refine wpList_store_whole rfl 57 _ _ rfl rfl xS.heap.size rfl (Px.cells y) rfl _ _ XB.out rfl Try.infoPx (Px.one _) ?_
                   intro v25 b g z
                   have hsv25 : v24.heap.size ≤ v25.heap.size := by omega
                   have HV := hid (HV.out.trans (grown_below g (by omega) (by omega)))
                   have XB := hid (show BoxAt v25 xS.heap.size 57 (Px.cells y).toArray from b)
                   have PB := hid (PB.out.grown g (fun e => by have := Option.some.inj e; omega))
                   have RB := hid (RB.out.grown g (fun e => by have := Option.some.inj e; omega))
                   have QB := hid (QB.out.grown g (fun e => by have := Option.some.inj e; omega))
                   have HB := hid (HB.out.trans (grown_below g (by omega) (by omega)))
                   clear b g z hfl FL25)
                | (have hfl := FL26.out
                   refine wpList_store_box rfl 3 _ _ rfl rfl xS.heap.size 12 (.int .i64 (-1)) rfl rfl rfl rfl (by kernel_rfl) _ _ XB.out (by simp [Px.cells]) ?_
                   intro v26 b g z
                   have hsv26 : v25.heap.size ≤ v26.heap.size := by omega
                   have HV := hid (HV.out.trans (grown_below g (by omega) (by omega)))
                   have XB := hid (show BoxAt v26 xS.heap.size 57 (Px.cells x1).toArray by rw [← HX1.out]; simpa [Px.cells] using b)
                   have PB := hid (PB.out.grown g (fun e => by have := Option.some.inj e; omega))
                   have RB := hid (RB.out.grown g (fun e => by have := Option.some.inj e; omega))
                   have QB := hid (QB.out.grown g (fun e => by have := Option.some.inj e; omega))
                   have HB := hid (HB.out.trans (grown_below g (by omega) (by omega)))
                   clear b g z hfl FL26)
                | (with_reducible refine wpList_dst 59 rfl ?_
                   refine wpList_load_box rfl 39 _ rfl QBa rfl _ _ QB.out _ Try.underlying39 Try.infoPa ?_)
                | (with_reducible refine wpList_dst 61 rfl ?_
                   refine wpList_load_box rfl 57 _ rfl xS.heap.size rfl _ _ XB.out _ Try.underlying57 Try.infoPx ?_)
                | fail)
              have HO := hid (HO.out.below (by omega) HV.out)
              clear HV kQB4
              refine (rwith11_s (n := w0.heap.size) (c := C2) k x1 HO.out (by omega) HL2.out HK2.out).mono ?_
              rintro e v27 ⟨q', rfl, ho, hb⟩
              have PB := hid (PB.out.belowAll hb)
              have RB := hid (RB.out.belowAll hb)
              have QB := hid (QB.out.belowAll hb)
              have XB := hid (XB.out.belowAll hb)
              have HB := hid (HB.out.trans (hb.mono HB.out.size))
              have hsv27 : v26.heap.size ≤ v27.heap.size := hb.size
              have HOf := hid ho
              clear ho
              clear hb
              have FL27 := hid trivial
              go_wp2_with (first
                | (have hfl := FL27.out
                   refine wpList_store_whole rfl 39 _ _ rfl rfl v22.heap.size rfl (PaV.cells q') rfl _ _ RB.out rfl Try.infoPa (PaV.one _) ?_
                   intro v28 b g z
                   have hsv28 : v27.heap.size ≤ v28.heap.size := by omega
                   have HOf := hid (HOf.out.put (by omega) (by omega) g RB.out b)
                   have RB := hid (show BoxAt v28 v22.heap.size 39 (PaV.cells q').toArray from b)
                   have HB := hid (HB.out.trans (grown_below g (by omega) (by omega)))
                   clear b g z hfl FL27)
                | fail)
              refine bodyPost_ret (results_box_tmp rfl _ _ (v22.heap.size) 39 _ (0, 0) _ rfl RB.out Try.underlying39 rfl Try.infoPa) rfl ?_
              rw [show periodP cc c (k : Int) = ({ C2 with pr := C2.pr.set k x1 }, 6) from by unfold periodP; rw [if_pos HT.out, Int.toNat_natCast, if_neg (by rw [HR.out, HF.out]; exact fun h => h.elim HL.out (fun h => h HS.out)), HR.out, ← HC2.out, ← HX1.out, ← HY.out]; simp only [List.set_set]]
              exact ⟨q', rfl, HOf.out, HB.out⟩

end Go.Proofs.Ytdanfnbclbiidaa
