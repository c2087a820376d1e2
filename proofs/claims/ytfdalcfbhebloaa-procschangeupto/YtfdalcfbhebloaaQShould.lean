/-
  What the law's own should returns: one of five, by the document.
-/
import Derived.Test.YtfdalcfbhebloaaQStop
import Derived.Test.YtfdalcfbhebloaaQRef5
import Derived.Test.YtfdalcfbhebloaaQLawC
namespace Go.Proofs.Ytfdalcfbhebloaa
open Go.RowKit
set_option linter.unusedVariables false

set_option maxRecDepth 100000 in
set_option maxHeartbeats 6400000 in
theorem rshould_any {qc : Pv} {cc : Pt} {q : PaV} {c : Pa} {w0 w : World} {k i n : Int} (hc : PtAt w0 qc cc) (ha : PaAt w0 q c) (h0 : Below w0.heap.size w0 w) (hsm : c.small) :
    Calls Try.prog 13 #[qc.val, q.val, .int .i64 k, .int .i64 i, .int .i64 n] w fun e w' => ∃ q', e = .returned (.tuple #[PaV.val q', .int .i64 (changeP cc c k i n).2]) ∧ PaS w0.heap.size w' q' (changeP cc c k i n).1 ∧ Below w.heap.size w w' := by
  have HA0 := hid ha
  have HC0 := hid hc
  have HA := hid (ha.below h0)
  have H0 := hid h0
  have h0s : w0.heap.size ≤ w.heap.size := h0.size
  have HSm := hid hsm
  have HB := hid (Below.refl w.heap.size w)
  obtain ⟨ap, cpp, hpv, hp1, hp2, hpcell⟩ := HA.out.pr.form
  have hmax : cpp ≤ 9223372036854775807 := hp2
  have HPv := hid hpv
  have HPc := hid hpcell
  clear ha h0 hsm hpv hp2 hpcell
  obtain ⟨ac, cpc, hcv, hc1, hc2, hccell⟩ := (hc.below H0.out).pc.form
  have hmaxc : cpc ≤ 9223372036854775807 := hc2
  have HCv := hid hcv
  have HCc := hid hccell
  clear hc hcv hc2 hccell
  go_enter Try.func13, Try.ntmps13
  have HBx := HB
  by_cases hk0 : k = 0
  · subst hk0
    have FL1 := hid trivial
    have FL2 := hid trivial
    have FL3 := hid trivial
    go_wp2_with (first
      | (have hfl := FL1.out
         refine wpList_box rfl 28 (.tmp 0) rfl (Pv.cells qc).toArray rfl ?_
         intro v1 b h z
         have CB := hid (show BoxAt v1 w.heap.size 28 (Pv.cells qc).toArray from b)
         have HB := hid (HB.out.trans (h.mono HB.out.size))
         have hsv1 : w.heap.size + 1 ≤ v1.heap.size := by omega
         clear b h z hfl FL1)
      | (have hfl := FL2.out
         refine wpList_box rfl 39 (.tmp 1) rfl (PaV.cells q).toArray rfl ?_
         intro v2 b h z
         have PB := hid (show BoxAt v2 v1.heap.size 39 (PaV.cells q).toArray from b)
         have CB := hid (CB.out.belowAll h)
         have HB := hid (HB.out.trans (h.mono HB.out.size))
         have hsv2 : v1.heap.size + 1 ≤ v2.heap.size := by omega
         clear b h z hfl FL2)
      | (have hfl := FL3.out
         refine wpList_new rfl 39 rfl _ Try.zeroPa ?_
         intro v3 b h z
         have RB := hid (show BoxAt v3 v2.heap.size 39 (PaV.cells PaV.zero).toArray from b)
         have CB := hid (CB.out.belowAll h)
         have PB := hid (PB.out.belowAll h)
         have HB := hid (HB.out.trans (h.mono HB.out.size))
         have hsv3 : v2.heap.size + 1 ≤ v3.heap.size := by omega
         clear b h z hfl FL3)
      | (refine wpList_load_box rfl 28 _ rfl w.heap.size rfl _ _ CB.out _ Try.underlying28 Try.infoPv ?_)
      | (refine wpList_load_box rfl 39 _ rfl v1.heap.size rfl _ _ PB.out _ Try.underlying39 Try.infoPa ?_)
      | fail)
    refine (rstart_any (i := i) (n := n) HC0.out HA0.out (H0.out.trans (HB.out.mono h0s)) HSm.out).mono ?_
    rintro e v4 ⟨q', rfl, ho, hb⟩
    have CB := hid (CB.out.belowAll hb)
    have PB := hid (PB.out.belowAll hb)
    have RB := hid (RB.out.belowAll hb)
    have HB := hid (HB.out.trans (hb.mono HB.out.size))
    have hsv4 : v3.heap.size ≤ v4.heap.size := hb.size
    have HO := hid ho
    clear ho
    clear hb
    have FL4 := hid trivial
    have FL5 := hid trivial
    have FL6 := hid trivial
    go_wp2_with (first
      | (have hfl := FL4.out
         refine wpList_new rfl 39 rfl _ Try.zeroPa ?_
         intro v5 b h z
         have XB := hid (show BoxAt v5 v4.heap.size 39 (PaV.cells PaV.zero).toArray from b)
         have CB := hid (CB.out.belowAll h)
         have PB := hid (PB.out.belowAll h)
         have RB := hid (RB.out.belowAll h)
         have HO := hid (HO.out.below (by omega) h)
         have HB := hid (HB.out.trans (h.mono HB.out.size))
         have hsv5 : v4.heap.size + 1 ≤ v5.heap.size := by omega
         clear b h z hfl FL4)
      | (have hfl := FL5.out
         refine wpList_store_whole rfl 39 _ _ rfl rfl v4.heap.size rfl (PaV.cells q') rfl _ _ XB.out rfl Try.infoPa (PaV.one _) ?_
         intro v6 b g z
         have hsv6 : v5.heap.size ≤ v6.heap.size := by omega
         have HO := hid (HO.out.put (by omega) (by omega) g XB.out b)
         have XB := hid (show BoxAt v6 v4.heap.size 39 (PaV.cells q').toArray from b)
         have CB := hid (CB.out.grown g (fun e => by have := Option.some.inj e; omega))
         have PB := hid (PB.out.grown g (fun e => by have := Option.some.inj e; omega))
         have RB := hid (RB.out.grown g (fun e => by have := Option.some.inj e; omega))
         have HB := hid (HB.out.trans (grown_below g (by omega) (by omega)))
         clear b g z hfl FL5)
      | (refine wpList_load_box rfl 39 _ rfl v4.heap.size rfl _ _ XB.out _ Try.underlying39 Try.infoPa ?_)
      | (have hfl := FL6.out
         refine wpList_store_whole rfl 39 _ _ rfl rfl v2.heap.size rfl (PaV.cells q') rfl _ _ RB.out rfl Try.infoPa (PaV.one _) ?_
         intro v7 b g z
         have hsv7 : v6.heap.size ≤ v7.heap.size := by omega
         have HO := hid (HO.out.put (by omega) (by omega) g RB.out b)
         have RB := hid (show BoxAt v7 v2.heap.size 39 (PaV.cells q').toArray from b)
         have CB := hid (CB.out.grown g (fun e => by have := Option.some.inj e; omega))
         have PB := hid (PB.out.grown g (fun e => by have := Option.some.inj e; omega))
         have XB := hid (XB.out.grown g (fun e => by have := Option.some.inj e; omega))
         have HB := hid (HB.out.trans (grown_below g (by omega) (by omega)))
         clear b g z hfl FL6)
      | fail)
    refine bodyPost_ret (results_box_tmp rfl _ _ (v2.heap.size) 39 _ (0, 0) _ rfl RB.out Try.underlying39 rfl Try.infoPa) rfl ?_
    rw [show changeP cc c 0 i n = startP cc c i n from by unfold changeP; rw [if_pos rfl]]
    exact ⟨q', rfl, HO.out, HB.out⟩
  · by_cases hk1 : k = 1
    · subst hk1
      have FL7 := hid trivial
      have FL8 := hid trivial
      have FL9 := hid trivial
      go_wp2_with (first
        | (have hfl := FL7.out
           refine wpList_box rfl 28 (.tmp 0) rfl (Pv.cells qc).toArray rfl ?_
           intro v8 b h z
           have CB := hid (show BoxAt v8 w.heap.size 28 (Pv.cells qc).toArray from b)
           have HB := hid (HB.out.trans (h.mono HB.out.size))
           have hsv8 : w.heap.size + 1 ≤ v8.heap.size := by omega
           clear b h z hfl FL7)
        | (have hfl := FL8.out
           refine wpList_box rfl 39 (.tmp 1) rfl (PaV.cells q).toArray rfl ?_
           intro v9 b h z
           have PB := hid (show BoxAt v9 v8.heap.size 39 (PaV.cells q).toArray from b)
           have CB := hid (CB.out.belowAll h)
           have HB := hid (HB.out.trans (h.mono HB.out.size))
           have hsv9 : v8.heap.size + 1 ≤ v9.heap.size := by omega
           clear b h z hfl FL8)
        | (have hfl := FL9.out
           refine wpList_new rfl 39 rfl _ Try.zeroPa ?_
           intro v10 b h z
           have RB := hid (show BoxAt v10 v9.heap.size 39 (PaV.cells PaV.zero).toArray from b)
           have CB := hid (CB.out.belowAll h)
           have PB := hid (PB.out.belowAll h)
           have HB := hid (HB.out.trans (h.mono HB.out.size))
           have hsv10 : v9.heap.size + 1 ≤ v10.heap.size := by omega
           clear b h z hfl FL9)
        | (refine wpList_load_box rfl 39 _ rfl v8.heap.size rfl _ _ PB.out _ Try.underlying39 Try.infoPa ?_)
        | fail)
      refine (rstop_any (i := i) HA0.out (H0.out.trans (HB.out.mono h0s)) HSm.out).mono ?_
      rintro e v11 ⟨q', rfl, ho, hb⟩
      have CB := hid (CB.out.belowAll hb)
      have PB := hid (PB.out.belowAll hb)
      have RB := hid (RB.out.belowAll hb)
      have HB := hid (HB.out.trans (hb.mono HB.out.size))
      have hsv11 : v10.heap.size ≤ v11.heap.size := hb.size
      have HO := hid ho
      clear ho
      clear hb
      have FL10 := hid trivial
      have FL11 := hid trivial
      have FL12 := hid trivial
      go_wp2_with (first
        | (have hfl := FL10.out
           refine wpList_new rfl 39 rfl _ Try.zeroPa ?_
           intro v12 b h z
           have XB := hid (show BoxAt v12 v11.heap.size 39 (PaV.cells PaV.zero).toArray from b)
           have CB := hid (CB.out.belowAll h)
           have PB := hid (PB.out.belowAll h)
           have RB := hid (RB.out.belowAll h)
           have HO := hid (HO.out.below (by omega) h)
           have HB := hid (HB.out.trans (h.mono HB.out.size))
           have hsv12 : v11.heap.size + 1 ≤ v12.heap.size := by omega
           clear b h z hfl FL10)
        | (have hfl := FL11.out
           refine wpList_store_whole rfl 39 _ _ rfl rfl v11.heap.size rfl (PaV.cells q') rfl _ _ XB.out rfl Try.infoPa (PaV.one _) ?_
           intro v13 b g z
           have hsv13 : v12.heap.size ≤ v13.heap.size := by omega
           have HO := hid (HO.out.put (by omega) (by omega) g XB.out b)
           have XB := hid (show BoxAt v13 v11.heap.size 39 (PaV.cells q').toArray from b)
           have CB := hid (CB.out.grown g (fun e => by have := Option.some.inj e; omega))
           have PB := hid (PB.out.grown g (fun e => by have := Option.some.inj e; omega))
           have RB := hid (RB.out.grown g (fun e => by have := Option.some.inj e; omega))
           have HB := hid (HB.out.trans (grown_below g (by omega) (by omega)))
           clear b g z hfl FL11)
        | (refine wpList_load_box rfl 39 _ rfl v11.heap.size rfl _ _ XB.out _ Try.underlying39 Try.infoPa ?_)
        | (have hfl := FL12.out
           refine wpList_store_whole rfl 39 _ _ rfl rfl v9.heap.size rfl (PaV.cells q') rfl _ _ RB.out rfl Try.infoPa (PaV.one _) ?_
           intro v14 b g z
           have hsv14 : v13.heap.size ≤ v14.heap.size := by omega
           have HO := hid (HO.out.put (by omega) (by omega) g RB.out b)
           have RB := hid (show BoxAt v14 v9.heap.size 39 (PaV.cells q').toArray from b)
           have CB := hid (CB.out.grown g (fun e => by have := Option.some.inj e; omega))
           have PB := hid (PB.out.grown g (fun e => by have := Option.some.inj e; omega))
           have XB := hid (XB.out.grown g (fun e => by have := Option.some.inj e; omega))
           have HB := hid (HB.out.trans (grown_below g (by omega) (by omega)))
           clear b g z hfl FL12)
        | fail)
      refine bodyPost_ret (results_box_tmp rfl _ _ (v9.heap.size) 39 _ (0, 0) _ rfl RB.out Try.underlying39 rfl Try.infoPa) rfl ?_
      rw [show changeP cc c 1 i n = stopP c i from by unfold changeP; rw [if_neg (by decide), if_pos rfl]]
      exact ⟨q', rfl, HO.out, HB.out⟩
    · by_cases hk2 : k = 2
      · subst hk2
        have FL13 := hid trivial
        have FL14 := hid trivial
        have FL15 := hid trivial
        go_wp2_with (first
          | (have hfl := FL13.out
             refine wpList_box rfl 28 (.tmp 0) rfl (Pv.cells qc).toArray rfl ?_
             intro v15 b h z
             have CB := hid (show BoxAt v15 w.heap.size 28 (Pv.cells qc).toArray from b)
             have HB := hid (HB.out.trans (h.mono HB.out.size))
             have hsv15 : w.heap.size + 1 ≤ v15.heap.size := by omega
             clear b h z hfl FL13)
          | (have hfl := FL14.out
             refine wpList_box rfl 39 (.tmp 1) rfl (PaV.cells q).toArray rfl ?_
             intro v16 b h z
             have PB := hid (show BoxAt v16 v15.heap.size 39 (PaV.cells q).toArray from b)
             have CB := hid (CB.out.belowAll h)
             have HB := hid (HB.out.trans (h.mono HB.out.size))
             have hsv16 : v15.heap.size + 1 ≤ v16.heap.size := by omega
             clear b h z hfl FL14)
          | (have hfl := FL15.out
             refine wpList_new rfl 39 rfl _ Try.zeroPa ?_
             intro v17 b h z
             have RB := hid (show BoxAt v17 v16.heap.size 39 (PaV.cells PaV.zero).toArray from b)
             have CB := hid (CB.out.belowAll h)
             have PB := hid (PB.out.belowAll h)
             have HB := hid (HB.out.trans (h.mono HB.out.size))
             have hsv17 : v16.heap.size + 1 ≤ v17.heap.size := by omega
             clear b h z hfl FL15)
          | (refine wpList_load_box rfl 28 _ rfl w.heap.size rfl _ _ CB.out _ Try.underlying28 Try.infoPv ?_)
          | (refine wpList_load_box rfl 39 _ rfl v15.heap.size rfl _ _ PB.out _ Try.underlying39 Try.infoPa ?_)
          | fail)
        refine (rsusp_any (i := i) HC0.out HA0.out (H0.out.trans (HB.out.mono h0s)) HSm.out).mono ?_
        rintro e v18 ⟨q', rfl, ho, hb⟩
        have CB := hid (CB.out.belowAll hb)
        have PB := hid (PB.out.belowAll hb)
        have RB := hid (RB.out.belowAll hb)
        have HB := hid (HB.out.trans (hb.mono HB.out.size))
        have hsv18 : v17.heap.size ≤ v18.heap.size := hb.size
        have HO := hid ho
        clear ho
        clear hb
        have FL16 := hid trivial
        have FL17 := hid trivial
        have FL18 := hid trivial
        go_wp2_with (first
          | (have hfl := FL16.out
             refine wpList_new rfl 39 rfl _ Try.zeroPa ?_
             intro v19 b h z
             have XB := hid (show BoxAt v19 v18.heap.size 39 (PaV.cells PaV.zero).toArray from b)
             have CB := hid (CB.out.belowAll h)
             have PB := hid (PB.out.belowAll h)
             have RB := hid (RB.out.belowAll h)
             have HO := hid (HO.out.below (by omega) h)
             have HB := hid (HB.out.trans (h.mono HB.out.size))
             have hsv19 : v18.heap.size + 1 ≤ v19.heap.size := by omega
             clear b h z hfl FL16)
          | (have hfl := FL17.out
             refine wpList_store_whole rfl 39 _ _ rfl rfl v18.heap.size rfl (PaV.cells q') rfl _ _ XB.out rfl Try.infoPa (PaV.one _) ?_
             intro v20 b g z
             have hsv20 : v19.heap.size ≤ v20.heap.size := by omega
             have HO := hid (HO.out.put (by omega) (by omega) g XB.out b)
             have XB := hid (show BoxAt v20 v18.heap.size 39 (PaV.cells q').toArray from b)
             have CB := hid (CB.out.grown g (fun e => by have := Option.some.inj e; omega))
             have PB := hid (PB.out.grown g (fun e => by have := Option.some.inj e; omega))
             have RB := hid (RB.out.grown g (fun e => by have := Option.some.inj e; omega))
             have HB := hid (HB.out.trans (grown_below g (by omega) (by omega)))
             clear b g z hfl FL17)
          | (refine wpList_load_box rfl 39 _ rfl v18.heap.size rfl _ _ XB.out _ Try.underlying39 Try.infoPa ?_)
          | (have hfl := FL18.out
             refine wpList_store_whole rfl 39 _ _ rfl rfl v16.heap.size rfl (PaV.cells q') rfl _ _ RB.out rfl Try.infoPa (PaV.one _) ?_
             intro v21 b g z
             have hsv21 : v20.heap.size ≤ v21.heap.size := by omega
             have HO := hid (HO.out.put (by omega) (by omega) g RB.out b)
             have RB := hid (show BoxAt v21 v16.heap.size 39 (PaV.cells q').toArray from b)
             have CB := hid (CB.out.grown g (fun e => by have := Option.some.inj e; omega))
             have PB := hid (PB.out.grown g (fun e => by have := Option.some.inj e; omega))
             have XB := hid (XB.out.grown g (fun e => by have := Option.some.inj e; omega))
             have HB := hid (HB.out.trans (grown_below g (by omega) (by omega)))
             clear b g z hfl FL18)
          | fail)
        refine bodyPost_ret (results_box_tmp rfl _ _ (v16.heap.size) 39 _ (0, 0) _ rfl RB.out Try.underlying39 rfl Try.infoPa) rfl ?_
        rw [show changeP cc c 2 i n = suspP cc c i from by unfold changeP; rw [if_neg (by decide), if_neg (by decide), if_pos rfl]]
        exact ⟨q', rfl, HO.out, HB.out⟩
      · by_cases hk3 : k = 3
        · subst hk3
          have FL19 := hid trivial
          have FL20 := hid trivial
          have FL21 := hid trivial
          go_wp2_with (first
            | (have hfl := FL19.out
               refine wpList_box rfl 28 (.tmp 0) rfl (Pv.cells qc).toArray rfl ?_
               intro v22 b h z
               have CB := hid (show BoxAt v22 w.heap.size 28 (Pv.cells qc).toArray from b)
               have HB := hid (HB.out.trans (h.mono HB.out.size))
               have hsv22 : w.heap.size + 1 ≤ v22.heap.size := by omega
               clear b h z hfl FL19)
            | (have hfl := FL20.out
               refine wpList_box rfl 39 (.tmp 1) rfl (PaV.cells q).toArray rfl ?_
               intro v23 b h z
               have PB := hid (show BoxAt v23 v22.heap.size 39 (PaV.cells q).toArray from b)
               have CB := hid (CB.out.belowAll h)
               have HB := hid (HB.out.trans (h.mono HB.out.size))
               have hsv23 : v22.heap.size + 1 ≤ v23.heap.size := by omega
               clear b h z hfl FL20)
            | (have hfl := FL21.out
               refine wpList_new rfl 39 rfl _ Try.zeroPa ?_
               intro v24 b h z
               have RB := hid (show BoxAt v24 v23.heap.size 39 (PaV.cells PaV.zero).toArray from b)
               have CB := hid (CB.out.belowAll h)
               have PB := hid (PB.out.belowAll h)
               have HB := hid (HB.out.trans (h.mono HB.out.size))
               have hsv24 : v23.heap.size + 1 ≤ v24.heap.size := by omega
               clear b h z hfl FL21)
            | (refine wpList_load_box rfl 39 _ rfl v22.heap.size rfl _ _ PB.out _ Try.underlying39 Try.infoPa ?_)
            | fail)
          refine (rresume_any (i := i) HA0.out (H0.out.trans (HB.out.mono h0s)) HSm.out).mono ?_
          rintro e v25 ⟨q', rfl, ho, hb⟩
          have CB := hid (CB.out.belowAll hb)
          have PB := hid (PB.out.belowAll hb)
          have RB := hid (RB.out.belowAll hb)
          have HB := hid (HB.out.trans (hb.mono HB.out.size))
          have hsv25 : v24.heap.size ≤ v25.heap.size := hb.size
          have HO := hid ho
          clear ho
          clear hb
          have FL22 := hid trivial
          have FL23 := hid trivial
          have FL24 := hid trivial
          go_wp2_with (first
            | (have hfl := FL22.out
               refine wpList_new rfl 39 rfl _ Try.zeroPa ?_
               intro v26 b h z
               have XB := hid (show BoxAt v26 v25.heap.size 39 (PaV.cells PaV.zero).toArray from b)
               have CB := hid (CB.out.belowAll h)
               have PB := hid (PB.out.belowAll h)
               have RB := hid (RB.out.belowAll h)
               have HO := hid (HO.out.below (by omega) h)
               have HB := hid (HB.out.trans (h.mono HB.out.size))
               have hsv26 : v25.heap.size + 1 ≤ v26.heap.size := by omega
               clear b h z hfl FL22)
            | (have hfl := FL23.out
               refine wpList_store_whole rfl 39 _ _ rfl rfl v25.heap.size rfl (PaV.cells q') rfl _ _ XB.out rfl Try.infoPa (PaV.one _) ?_
               intro v27 b g z
               have hsv27 : v26.heap.size ≤ v27.heap.size := by omega
               have HO := hid (HO.out.put (by omega) (by omega) g XB.out b)
               have XB := hid (show BoxAt v27 v25.heap.size 39 (PaV.cells q').toArray from b)
               have CB := hid (CB.out.grown g (fun e => by have := Option.some.inj e; omega))
               have PB := hid (PB.out.grown g (fun e => by have := Option.some.inj e; omega))
               have RB := hid (RB.out.grown g (fun e => by have := Option.some.inj e; omega))
               have HB := hid (HB.out.trans (grown_below g (by omega) (by omega)))
               clear b g z hfl FL23)
            | (refine wpList_load_box rfl 39 _ rfl v25.heap.size rfl _ _ XB.out _ Try.underlying39 Try.infoPa ?_)
            | (have hfl := FL24.out
               refine wpList_store_whole rfl 39 _ _ rfl rfl v23.heap.size rfl (PaV.cells q') rfl _ _ RB.out rfl Try.infoPa (PaV.one _) ?_
               intro v28 b g z
               have hsv28 : v27.heap.size ≤ v28.heap.size := by omega
               have HO := hid (HO.out.put (by omega) (by omega) g RB.out b)
               have RB := hid (show BoxAt v28 v23.heap.size 39 (PaV.cells q').toArray from b)
               have CB := hid (CB.out.grown g (fun e => by have := Option.some.inj e; omega))
               have PB := hid (PB.out.grown g (fun e => by have := Option.some.inj e; omega))
               have XB := hid (XB.out.grown g (fun e => by have := Option.some.inj e; omega))
               have HB := hid (HB.out.trans (grown_below g (by omega) (by omega)))
               clear b g z hfl FL24)
            | fail)
          refine bodyPost_ret (results_box_tmp rfl _ _ (v23.heap.size) 39 _ (0, 0) _ rfl RB.out Try.underlying39 rfl Try.infoPa) rfl ?_
          rw [show changeP cc c 3 i n = resP c i from by unfold changeP; rw [if_neg (by decide), if_neg (by decide), if_neg (by decide), if_pos rfl]]
          exact ⟨q', rfl, HO.out, HB.out⟩
        · have tk0 : (k == 0) = false := by simpa using hk0
          have tk1 : (k == 1) = false := by simpa using hk1
          have tk2 : (k == 2) = false := by simpa using hk2
          have tk3 : (k == 3) = false := by simpa using hk3
          have HKs := hid (show changeP cc c k i n = prioP c i n from by unfold changeP; rw [if_neg hk0, if_neg hk1, if_neg hk2, if_neg hk3])
          clear hk0 hk1 hk2 hk3
          have FL25 := hid trivial
          have FL26 := hid trivial
          have FL27 := hid trivial
          go_wp2_with (first
            | (have hfl := FL25.out
               refine wpList_box rfl 28 (.tmp 0) rfl (Pv.cells qc).toArray rfl ?_
               intro v29 b h z
               have CB := hid (show BoxAt v29 w.heap.size 28 (Pv.cells qc).toArray from b)
               have HB := hid (HB.out.trans (h.mono HB.out.size))
               have hsv29 : w.heap.size + 1 ≤ v29.heap.size := by omega
               clear b h z hfl FL25)
            | (have hfl := FL26.out
               refine wpList_box rfl 39 (.tmp 1) rfl (PaV.cells q).toArray rfl ?_
               intro v30 b h z
               have PB := hid (show BoxAt v30 v29.heap.size 39 (PaV.cells q).toArray from b)
               have CB := hid (CB.out.belowAll h)
               have HB := hid (HB.out.trans (h.mono HB.out.size))
               have hsv30 : v29.heap.size + 1 ≤ v30.heap.size := by omega
               clear b h z hfl FL26)
            | (have hfl := FL27.out
               refine wpList_new rfl 39 rfl _ Try.zeroPa ?_
               intro v31 b h z
               have RB := hid (show BoxAt v31 v30.heap.size 39 (PaV.cells PaV.zero).toArray from b)
               have CB := hid (CB.out.belowAll h)
               have PB := hid (PB.out.belowAll h)
               have HB := hid (HB.out.trans (h.mono HB.out.size))
               have hsv31 : v30.heap.size + 1 ≤ v31.heap.size := by omega
               clear b h z hfl FL27)
            | (refine wpList_load_box rfl 39 _ rfl v29.heap.size rfl _ _ PB.out _ Try.underlying39 Try.infoPa ?_)
            | fail)
          refine (rprio_any (i := i) (n := n) HA0.out (H0.out.trans (HB.out.mono h0s)) HSm.out).mono ?_
          rintro e v32 ⟨q', rfl, ho, hb⟩
          have CB := hid (CB.out.belowAll hb)
          have PB := hid (PB.out.belowAll hb)
          have RB := hid (RB.out.belowAll hb)
          have HB := hid (HB.out.trans (hb.mono HB.out.size))
          have hsv32 : v31.heap.size ≤ v32.heap.size := hb.size
          have HO := hid ho
          clear ho
          clear hb
          have FL28 := hid trivial
          have FL29 := hid trivial
          have FL30 := hid trivial
          go_wp2_with (first
            | (have hfl := FL28.out
               refine wpList_new rfl 39 rfl _ Try.zeroPa ?_
               intro v33 b h z
               have XB := hid (show BoxAt v33 v32.heap.size 39 (PaV.cells PaV.zero).toArray from b)
               have CB := hid (CB.out.belowAll h)
               have PB := hid (PB.out.belowAll h)
               have RB := hid (RB.out.belowAll h)
               have HO := hid (HO.out.below (by omega) h)
               have HB := hid (HB.out.trans (h.mono HB.out.size))
               have hsv33 : v32.heap.size + 1 ≤ v33.heap.size := by omega
               clear b h z hfl FL28)
            | (have hfl := FL29.out
               refine wpList_store_whole rfl 39 _ _ rfl rfl v32.heap.size rfl (PaV.cells q') rfl _ _ XB.out rfl Try.infoPa (PaV.one _) ?_
               intro v34 b g z
               have hsv34 : v33.heap.size ≤ v34.heap.size := by omega
               have HO := hid (HO.out.put (by omega) (by omega) g XB.out b)
               have XB := hid (show BoxAt v34 v32.heap.size 39 (PaV.cells q').toArray from b)
               have CB := hid (CB.out.grown g (fun e => by have := Option.some.inj e; omega))
               have PB := hid (PB.out.grown g (fun e => by have := Option.some.inj e; omega))
               have RB := hid (RB.out.grown g (fun e => by have := Option.some.inj e; omega))
               have HB := hid (HB.out.trans (grown_below g (by omega) (by omega)))
               clear b g z hfl FL29)
            | (refine wpList_load_box rfl 39 _ rfl v32.heap.size rfl _ _ XB.out _ Try.underlying39 Try.infoPa ?_)
            | (have hfl := FL30.out
               refine wpList_store_whole rfl 39 _ _ rfl rfl v30.heap.size rfl (PaV.cells q') rfl _ _ RB.out rfl Try.infoPa (PaV.one _) ?_
               intro v35 b g z
               have hsv35 : v34.heap.size ≤ v35.heap.size := by omega
               have HO := hid (HO.out.put (by omega) (by omega) g RB.out b)
               have RB := hid (show BoxAt v35 v30.heap.size 39 (PaV.cells q').toArray from b)
               have CB := hid (CB.out.grown g (fun e => by have := Option.some.inj e; omega))
               have PB := hid (PB.out.grown g (fun e => by have := Option.some.inj e; omega))
               have XB := hid (XB.out.grown g (fun e => by have := Option.some.inj e; omega))
               have HB := hid (HB.out.trans (grown_below g (by omega) (by omega)))
               clear b g z hfl FL30)
            | fail)
          refine bodyPost_ret (results_box_tmp rfl _ _ (v30.heap.size) 39 _ (0, 0) _ rfl RB.out Try.underlying39 rfl Try.infoPa) rfl ?_
          rw [HKs.out]
          exact ⟨q', rfl, HO.out, HB.out⟩

end Go.Proofs.Ytfdalcfbhebloaa
