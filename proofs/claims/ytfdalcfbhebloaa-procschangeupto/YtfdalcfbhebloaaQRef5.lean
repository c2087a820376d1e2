/-
  What the document's Start and Suspend return.
-/
import Derived.Test.YtfdalcfbhebloaaQRef3
namespace Go.Proofs.Ytfdalcfbhebloaa
open Go.RowKit
set_option linter.unusedVariables false

theorem start_in {cc : Pt} {c : Pa} {k : Nat} (h : k < cc.pc.length) (now : Int) : startP cc c (k : Int) now = deedP c (k : Int) (startD (cc.pc.getD k Pc.zero) now) := by
  unfold startP
  rw [if_pos ⟨by omega, by omega⟩]
  rfl
theorem susp_in {cc : Pt} {c : Pa} {k : Nat} (h : k < cc.pc.length) : suspP cc c (k : Int) = deedP c (k : Int) (suspD (cc.pc.getD k Pc.zero)) := by
  unfold suspP
  rw [if_pos ⟨by omega, by omega⟩]
  rfl

set_option maxRecDepth 100000 in
set_option maxHeartbeats 6400000 in
theorem rstart_any {qc : Pv} {cc : Pt} {q : PaV} {c : Pa} {w0 w : World} {i n : Int} (hc : PtAt w0 qc cc) (ha : PaAt w0 q c) (h0 : Below w0.heap.size w0 w) (hsm : c.small) :
    Calls Try.prog 30 #[qc.val, q.val, .int .i64 i, .int .i64 n] w fun e w' => ∃ q', e = .returned (.tuple #[PaV.val q', .int .i64 (startP cc c i n).2]) ∧ PaS w0.heap.size w' q' (startP cc c i n).1 ∧ Below w.heap.size w w' := by
  have HA0 := hid ha
  have HA := hid (ha.below h0)
  have H0 := hid h0
  have h0s : w0.heap.size ≤ w.heap.size := h0.size
  have HSm := hid hsm
  have HB := hid (Below.refl w.heap.size w)
  obtain ⟨ap, cpp, hpv, hp1, hp2, hpcell⟩ := HA.out.pr.form
  have hmax : cpp ≤ 9223372036854775807 := hp2
  have HPv := hid hpv
  have HPc := hid hpcell
  clear ha h0 hsm hpv hp2 hpcell
  obtain ⟨ac, cpc, hcv, hc1, hc2, hccell⟩ := (hc.below H0.out).pc.form
  have hmaxc : cpc ≤ 9223372036854775807 := hc2
  have HCv := hid hcv
  have HCc := hid hccell
  clear hc hcv hc2 hccell
  go_enter Try.func30, Try.ntmps30
  have FL1 := hid trivial
  have FL2 := hid trivial
  have FL3 := hid trivial
  go_wp2_with (first
    | (have hfl := FL1.out
       refine wpList_box rfl 28 (.tmp 0) rfl (Pv.cells qc).toArray rfl ?_
       intro v1 b h z
       have CB := hid (show BoxAt v1 w.heap.size 28 (Pv.cells qc).toArray from b)
       have HB := hid (HB.out.trans (h.mono HB.out.size))
       have hsv1 : w.heap.size + 1 ≤ v1.heap.size := by omega
       clear b h z hfl FL1)
    | (have hfl := FL2.out
       refine wpList_box rfl 39 (.tmp 1) rfl (PaV.cells q).toArray rfl ?_
       intro v2 b h z
       have PB := hid (show BoxAt v2 v1.heap.size 39 (PaV.cells q).toArray from b)
       have CB := hid (CB.out.belowAll h)
       have HB := hid (HB.out.trans (h.mono HB.out.size))
       have hsv2 : v1.heap.size + 1 ≤ v2.heap.size := by omega
       clear b h z hfl FL2)
    | (have hfl := FL3.out
       refine wpList_new rfl 39 rfl _ Try.zeroPa ?_
       intro v3 b h z
       have RB := hid (show BoxAt v3 v2.heap.size 39 (PaV.cells PaV.zero).toArray from b)
       have CB := hid (CB.out.belowAll h)
       have PB := hid (PB.out.belowAll h)
       have HB := hid (HB.out.trans (h.mono HB.out.size))
       have hsv3 : v2.heap.size + 1 ≤ v3.heap.size := by omega
       have kCB2 : v3.cell? ⟨w.heap.size, 2, none⟩ = some (.slice ac cc.pc.length cpc) := (BoxAt.cell CB.out 2).trans (by show some qc.v2.val = _; rw [HCv.out])
       clear b h z hfl FL3)
    | (refine wpList_load_box rfl 39 _ rfl v1.heap.size rfl _ _ PB.out _ Try.underlying39 Try.infoPa ?_)
    | fail)
  refine (rthere_any i (HA.out.below HB.out)).mono ?_
  rintro e v4 ⟨rfl, hb⟩
  have CB := hid (CB.out.belowAll hb)
  have PB := hid (PB.out.belowAll hb)
  have RB := hid (RB.out.belowAll hb)
  have HB := hid (HB.out.trans (hb.mono HB.out.size))
  have hsv4 : v3.heap.size ≤ v4.heap.size := hb.size
  clear kCB2
  have kCB2 : v4.cell? ⟨w.heap.size, 2, none⟩ = some (.slice ac cc.pc.length cpc) := (BoxAt.cell CB.out 2).trans (by show some qc.v2.val = _; rw [HCv.out])
  clear hb
  by_cases hin : 0 ≤ i ∧ i < c.pr.length
  rotate_left
  · have HIn := hid hin
    rw [decide_eq_false hin]
    clear hin
    have FL4 := hid trivial
    go_wp2_with (first
      | (refine wpList_load_box rfl 39 _ rfl v1.heap.size rfl _ _ PB.out _ Try.underlying39 Try.infoPa ?_)
      | (have hfl := FL4.out
         refine wpList_store_whole rfl 39 _ _ rfl rfl v2.heap.size rfl (PaV.cells q) rfl _ _ RB.out rfl Try.infoPa (PaV.one _) ?_
         intro v5 b g z
         have hsv5 : v4.heap.size ≤ v5.heap.size := by omega
         have RB := hid (show BoxAt v5 v2.heap.size 39 (PaV.cells q).toArray from b)
         have CB := hid (CB.out.grown g (fun e => by have := Option.some.inj e; omega))
         have PB := hid (PB.out.grown g (fun e => by have := Option.some.inj e; omega))
         have HB := hid (HB.out.trans (grown_below g (by omega) (by omega)))
         clear kCB2
         have kCB2 : v5.cell? ⟨w.heap.size, 2, none⟩ = some (.slice ac cc.pc.length cpc) := (BoxAt.cell CB.out 2).trans (by show some qc.v2.val = _; rw [HCv.out])
         clear b g z hfl FL4)
      | fail)
    refine bodyPost_ret (results_box_tmp rfl _ _ (v2.heap.size) 39 _ (0, 0) _ rfl RB.out Try.underlying39 rfl Try.infoPa) rfl ?_
    rw [show startP cc c i n = (c, 3) from by unfold startP; rw [deed_out HIn.out]; split <;> rfl]
    exact ⟨q, rfl, PaS.from HA0.out (H0.out.trans (HB.out.mono h0s)), HB.out⟩
  rw [decide_eq_true hin]
  obtain ⟨k, hki⟩ : ∃ k : Nat, i = (k : Int) := ⟨(i).toNat, by omega⟩
  have hk : k < c.pr.length := by omega
  clear hin
  subst hki
  by_cases hcf : k < cc.pc.length
  rotate_left
  · have tcf : decide (cc.pc.length ≤ k) = true := decide_eq_true (by omega)
    have HCf := hid hcf
    clear hcf
    have FL5 := hid trivial
    go_wp2_with (first
      | (refine wpList_load_box rfl 39 _ rfl v1.heap.size rfl _ _ PB.out _ Try.underlying39 Try.infoPa ?_)
      | (have hfl := FL5.out
         refine wpList_store_whole rfl 39 _ _ rfl rfl v2.heap.size rfl (PaV.cells q) rfl _ _ RB.out rfl Try.infoPa (PaV.one _) ?_
         intro v6 b g z
         have hsv6 : v4.heap.size ≤ v6.heap.size := by omega
         have RB := hid (show BoxAt v6 v2.heap.size 39 (PaV.cells q).toArray from b)
         have CB := hid (CB.out.grown g (fun e => by have := Option.some.inj e; omega))
         have PB := hid (PB.out.grown g (fun e => by have := Option.some.inj e; omega))
         have HB := hid (HB.out.trans (grown_below g (by omega) (by omega)))
         clear kCB2
         have kCB2 : v6.cell? ⟨w.heap.size, 2, none⟩ = some (.slice ac cc.pc.length cpc) := (BoxAt.cell CB.out 2).trans (by show some qc.v2.val = _; rw [HCv.out])
         clear b g z hfl FL5)
      | fail)
    refine bodyPost_ret (results_box_tmp rfl _ _ (v2.heap.size) 39 _ (0, 0) _ rfl RB.out Try.underlying39 rfl Try.infoPa) rfl ?_
    rw [show startP cc c (k : Int) n = (c, 3) from by unfold startP; rw [if_neg (fun h => HCf.out (by omega))]]
    exact ⟨q, rfl, PaS.from HA0.out (H0.out.trans (HB.out.mono h0s)), HB.out⟩
  have tcf : decide (cc.pc.length ≤ k) = false := decide_eq_false (by omega)
  have HCf := hid hcf
  obtain ⟨b2, of2, rfl, hbw2, hpc⟩ := HCc.out (by omega)
  obtain ⟨f, hf⟩ : ∃ f, cc.pc.getD k Pc.zero = f := ⟨_, rfl⟩
  have HF0 := hid (show ∀ j, j < 5 → w.cell? ⟨b2, of2 + k * 5 + j, none⟩ = some (f.cells.getD j .nilIface) from fun j hj => by rw [← hf]; exact hpc k hcf j hj)
  have HF := hid hf
  clear hf hpc
  obtain ⟨b1, off, rfl, hbw, hpx⟩ := HPc.out (by omega)
  have HP0 := hid (show PxAt w b1 (off + k * 18) (c.pr.getD k Px.zero) from fun j hj => hpx k hk j hj)
  clear hpx
  obtain ⟨r, hr⟩ : ∃ r, c.pr.getD k Px.zero = r := ⟨_, rfl⟩
  rw [hr] at HP0
  have HR := hid hr
  have HK := hid hk
  clear hr
  clear kCB2
  have kCB2 : v4.cell? ⟨w.heap.size, 2, none⟩ = some (.slice (some ⟨b2, of2, none⟩) cc.pc.length cpc) := (BoxAt.cell CB.out 2).trans (by show some qc.v2.val = _; rw [HCv.out])
  have kPB4 : v4.cell? ⟨v1.heap.size, 4, none⟩ = some (.slice (some ⟨b1, off, none⟩) c.pr.length cpp) := (BoxAt.cell PB.out 4).trans (by show some q.pr.val = _; rw [HPv.out])
  have kst : v4.cell? ⟨b1, off + k * 18, none⟩ = some (.int .i64 r.st) := (HP0.out.below HB.out hbw).st
  by_cases hst : r.st = 0
  · have HSt := hid hst
    have FL6 := hid trivial
    have FL7 := hid trivial
    go_wp2_with (first
      | (refine wpList_load_mid rfl 65 _ rfl b2 (of2 + k * 5) rfl f.cells _ (range_of f.cells (fun j hj => (HB.out.cell (by exact hbw2)).trans (HF0.out j hj))) Try.underlying65 rfl Try.infoPc ?_)
      | (have hfl := FL6.out
         refine wpList_new rfl 65 rfl _ Try.zeroPc ?_
         intro v7 b h z
         have FB := hid (show BoxAt v7 v4.heap.size 65 (Pc.cells Pc.zero).toArray from b)
         have CB := hid (CB.out.belowAll h)
         have PB := hid (PB.out.belowAll h)
         have RB := hid (RB.out.belowAll h)
         have HB := hid (HB.out.trans (h.mono HB.out.size))
         have hsv7 : v4.heap.size + 1 ≤ v7.heap.size := by omega
         clear kCB2
         have kCB2 : v7.cell? ⟨w.heap.size, 2, none⟩ = some (.slice (some ⟨b2, of2, none⟩) cc.pc.length cpc) := (BoxAt.cell CB.out 2).trans (by show some qc.v2.val = _; rw [HCv.out])
         clear b h z hfl FL6)
      | (have hfl := FL7.out
         refine wpList_store_whole rfl 65 _ _ rfl rfl v4.heap.size rfl (Pc.cells f) rfl _ _ FB.out rfl Try.infoPc (Pc.one _) ?_
         intro v8 b g z
         have hsv8 : v7.heap.size ≤ v8.heap.size := by omega
         have FB := hid (show BoxAt v8 v4.heap.size 65 (Pc.cells f).toArray from b)
         have CB := hid (CB.out.grown g (fun e => by have := Option.some.inj e; omega))
         have PB := hid (PB.out.grown g (fun e => by have := Option.some.inj e; omega))
         have RB := hid (RB.out.grown g (fun e => by have := Option.some.inj e; omega))
         have HB := hid (HB.out.trans (grown_below g (by omega) (by omega)))
         clear kCB2
         have kCB2 : v8.cell? ⟨w.heap.size, 2, none⟩ = some (.slice (some ⟨b2, of2, none⟩) cc.pc.length cpc) := (BoxAt.cell CB.out 2).trans (by show some qc.v2.val = _; rw [HCv.out])
         have kFB0 : v8.cell? ⟨v4.heap.size, 0, none⟩ = some (.int .i64 f.pr) := (BoxAt.cell FB.out 0).trans rfl
         have kFB1 : v8.cell? ⟨v4.heap.size, 1, none⟩ = some (.int .i64 f.pe) := (BoxAt.cell FB.out 1).trans rfl
         have kFB2 : v8.cell? ⟨v4.heap.size, 2, none⟩ = some (.int .i64 f.li) := (BoxAt.cell FB.out 2).trans rfl
         have kFB3 : v8.cell? ⟨v4.heap.size, 3, none⟩ = some (.int .i64 f.en) := (BoxAt.cell FB.out 3).trans rfl
         clear b g z hfl FL7)
      | fail)
    refine (rdorm_any f.pr _).mono ?_
    rintro e v9 ⟨rfl, hb⟩
    have CB := hid (CB.out.belowAll hb)
    have PB := hid (PB.out.belowAll hb)
    have RB := hid (RB.out.belowAll hb)
    have FB := hid (FB.out.belowAll hb)
    have HB := hid (HB.out.trans (hb.mono HB.out.size))
    have hsv9 : v8.heap.size ≤ v9.heap.size := hb.size
    obtain ⟨d, hd⟩ : ∃ d, Px.dorm f.pr = d := ⟨_, rfl⟩
    rw [hd]
    have HDm := hid hd
    clear hd
    clear kCB2
    have kCB2 : v9.cell? ⟨w.heap.size, 2, none⟩ = some (.slice (some ⟨b2, of2, none⟩) cc.pc.length cpc) := (BoxAt.cell CB.out 2).trans (by show some qc.v2.val = _; rw [HCv.out])
    clear kFB0
    have kFB0 : v9.cell? ⟨v4.heap.size, 0, none⟩ = some (.int .i64 f.pr) := (BoxAt.cell FB.out 0).trans rfl
    clear kFB1
    have kFB1 : v9.cell? ⟨v4.heap.size, 1, none⟩ = some (.int .i64 f.pe) := (BoxAt.cell FB.out 1).trans rfl
    clear kFB2
    have kFB2 : v9.cell? ⟨v4.heap.size, 2, none⟩ = some (.int .i64 f.li) := (BoxAt.cell FB.out 2).trans rfl
    clear kFB3
    have kFB3 : v9.cell? ⟨v4.heap.size, 3, none⟩ = some (.int .i64 f.en) := (BoxAt.cell FB.out 3).trans rfl
    clear hb
    clear hst kst
    by_cases hli : 0 < f.li
    · by_cases hpe : 0 < f.pe
      · obtain ⟨x1, hx1⟩ : ∃ x : Px, { d with st := 1, pc := f.en, du := wrap64 (n + f.li), ne := wrap64 (n + f.pe) } = x := ⟨_, rfl⟩
        have HX1 := hid hx1
        clear hx1
        have HD := hid (show startD f n r = ⟨x1, true, 0⟩ from by unfold startD; rw [if_pos HSt.out, if_pos hli, if_pos hpe, ← HX1.out, ← HDm.out]; try rfl)
        have FL8 := hid trivial
        have FL9 := hid trivial
        have FL10 := hid trivial
        have FL11 := hid trivial
        have FL12 := hid trivial
        have FL13 := hid trivial
        go_wp2_with (first
          | (have hfl := FL8.out
             refine wpList_new rfl 58 rfl _ Try.zeroPx ?_
             intro v10 b h z
             have XB := hid (show BoxAt v10 v9.heap.size 58 (Px.cells Px.zero).toArray from b)
             have CB := hid (CB.out.belowAll h)
             have PB := hid (PB.out.belowAll h)
             have RB := hid (RB.out.belowAll h)
             have FB := hid (FB.out.belowAll h)
             have HB := hid (HB.out.trans (h.mono HB.out.size))
             have hsv10 : v9.heap.size + 1 ≤ v10.heap.size := by omega
             clear kCB2
             have kCB2 : v10.cell? ⟨w.heap.size, 2, none⟩ = some (.slice (some ⟨b2, of2, none⟩) cc.pc.length cpc) := (BoxAt.cell CB.out 2).trans (by show some qc.v2.val = _; rw [HCv.out])
             clear kFB0
             have kFB0 : v10.cell? ⟨v4.heap.size, 0, none⟩ = some (.int .i64 f.pr) := (BoxAt.cell FB.out 0).trans rfl
             clear kFB1
             have kFB1 : v10.cell? ⟨v4.heap.size, 1, none⟩ = some (.int .i64 f.pe) := (BoxAt.cell FB.out 1).trans rfl
             clear kFB2
             have kFB2 : v10.cell? ⟨v4.heap.size, 2, none⟩ = some (.int .i64 f.li) := (BoxAt.cell FB.out 2).trans rfl
             clear kFB3
             have kFB3 : v10.cell? ⟨v4.heap.size, 3, none⟩ = some (.int .i64 f.en) := (BoxAt.cell FB.out 3).trans rfl
             clear b h z hfl FL8)
          | (have hfl := FL9.out
             refine wpList_store_whole rfl 58 _ _ rfl rfl v9.heap.size rfl (Px.cells d) rfl _ _ XB.out rfl Try.infoPx (Px.one _) ?_
             intro v11 b g z
             have hsv11 : v10.heap.size ≤ v11.heap.size := by omega
             have XB := hid (show BoxAt v11 v9.heap.size 58 (Px.cells d).toArray from b)
             have CB := hid (CB.out.grown g (fun e => by have := Option.some.inj e; omega))
             have PB := hid (PB.out.grown g (fun e => by have := Option.some.inj e; omega))
             have RB := hid (RB.out.grown g (fun e => by have := Option.some.inj e; omega))
             have FB := hid (FB.out.grown g (fun e => by have := Option.some.inj e; omega))
             have HB := hid (HB.out.trans (grown_below g (by omega) (by omega)))
             clear kCB2
             have kCB2 : v11.cell? ⟨w.heap.size, 2, none⟩ = some (.slice (some ⟨b2, of2, none⟩) cc.pc.length cpc) := (BoxAt.cell CB.out 2).trans (by show some qc.v2.val = _; rw [HCv.out])
             clear kFB0
             have kFB0 : v11.cell? ⟨v4.heap.size, 0, none⟩ = some (.int .i64 f.pr) := (BoxAt.cell FB.out 0).trans rfl
             clear kFB1
             have kFB1 : v11.cell? ⟨v4.heap.size, 1, none⟩ = some (.int .i64 f.pe) := (BoxAt.cell FB.out 1).trans rfl
             clear kFB2
             have kFB2 : v11.cell? ⟨v4.heap.size, 2, none⟩ = some (.int .i64 f.li) := (BoxAt.cell FB.out 2).trans rfl
             clear kFB3
             have kFB3 : v11.cell? ⟨v4.heap.size, 3, none⟩ = some (.int .i64 f.en) := (BoxAt.cell FB.out 3).trans rfl
             clear b g z hfl FL9)
          | (have hfl := FL10.out
             refine wpList_store_box rfl 3 _ _ rfl rfl v9.heap.size 0 (.int .i64 1) rfl rfl rfl rfl (by kernel_rfl) _ _ XB.out (by simp [Px.cells]) ?_
             intro v12 b g z
             have hsv12 : v11.heap.size ≤ v12.heap.size := by omega
             have XB := hid (show BoxAt v12 v9.heap.size 58 (Px.cells { d with st := 1 }).toArray by simpa [Px.cells] using b)
             have CB := hid (CB.out.grown g (fun e => by have := Option.some.inj e; omega))
             have PB := hid (PB.out.grown g (fun e => by have := Option.some.inj e; omega))
             have RB := hid (RB.out.grown g (fun e => by have := Option.some.inj e; omega))
             have FB := hid (FB.out.grown g (fun e => by have := Option.some.inj e; omega))
             have HB := hid (HB.out.trans (grown_below g (by omega) (by omega)))
             clear kCB2
             have kCB2 : v12.cell? ⟨w.heap.size, 2, none⟩ = some (.slice (some ⟨b2, of2, none⟩) cc.pc.length cpc) := (BoxAt.cell CB.out 2).trans (by show some qc.v2.val = _; rw [HCv.out])
             clear kFB0
             have kFB0 : v12.cell? ⟨v4.heap.size, 0, none⟩ = some (.int .i64 f.pr) := (BoxAt.cell FB.out 0).trans rfl
             clear kFB1
             have kFB1 : v12.cell? ⟨v4.heap.size, 1, none⟩ = some (.int .i64 f.pe) := (BoxAt.cell FB.out 1).trans rfl
             clear kFB2
             have kFB2 : v12.cell? ⟨v4.heap.size, 2, none⟩ = some (.int .i64 f.li) := (BoxAt.cell FB.out 2).trans rfl
             clear kFB3
             have kFB3 : v12.cell? ⟨v4.heap.size, 3, none⟩ = some (.int .i64 f.en) := (BoxAt.cell FB.out 3).trans rfl
             clear b g z hfl FL10)
          | (have hfl := FL11.out
             refine wpList_store_box rfl 3 _ _ rfl rfl v9.heap.size 3 (.int .i64 f.en) rfl rfl rfl rfl (by kernel_rfl) _ _ XB.out (by simp [Px.cells]) ?_
             intro v13 b g z
             have hsv13 : v12.heap.size ≤ v13.heap.size := by omega
             have XB := hid (show BoxAt v13 v9.heap.size 58 (Px.cells { d with st := 1, pc := f.en }).toArray by simpa [Px.cells] using b)
             have CB := hid (CB.out.grown g (fun e => by have := Option.some.inj e; omega))
             have PB := hid (PB.out.grown g (fun e => by have := Option.some.inj e; omega))
             have RB := hid (RB.out.grown g (fun e => by have := Option.some.inj e; omega))
             have FB := hid (FB.out.grown g (fun e => by have := Option.some.inj e; omega))
             have HB := hid (HB.out.trans (grown_below g (by omega) (by omega)))
             clear kCB2
             have kCB2 : v13.cell? ⟨w.heap.size, 2, none⟩ = some (.slice (some ⟨b2, of2, none⟩) cc.pc.length cpc) := (BoxAt.cell CB.out 2).trans (by show some qc.v2.val = _; rw [HCv.out])
             clear kFB0
             have kFB0 : v13.cell? ⟨v4.heap.size, 0, none⟩ = some (.int .i64 f.pr) := (BoxAt.cell FB.out 0).trans rfl
             clear kFB1
             have kFB1 : v13.cell? ⟨v4.heap.size, 1, none⟩ = some (.int .i64 f.pe) := (BoxAt.cell FB.out 1).trans rfl
             clear kFB2
             have kFB2 : v13.cell? ⟨v4.heap.size, 2, none⟩ = some (.int .i64 f.li) := (BoxAt.cell FB.out 2).trans rfl
             clear kFB3
             have kFB3 : v13.cell? ⟨v4.heap.size, 3, none⟩ = some (.int .i64 f.en) := (BoxAt.cell FB.out 3).trans rfl
             clear b g z hfl FL11)
          | (have hfl := FL12.out
             refine wpList_store_box rfl 3 _ _ rfl rfl v9.heap.size 12 (.int .i64 (wrap64 (n + f.li))) rfl rfl rfl rfl (by kernel_rfl) _ _ XB.out (by simp [Px.cells]) ?_
             intro v14 b g z
             have hsv14 : v13.heap.size ≤ v14.heap.size := by omega
             have XB := hid (show BoxAt v14 v9.heap.size 58 (Px.cells { d with st := 1, pc := f.en, du := wrap64 (n + f.li) }).toArray by simpa [Px.cells] using b)
             have CB := hid (CB.out.grown g (fun e => by have := Option.some.inj e; omega))
             have PB := hid (PB.out.grown g (fun e => by have := Option.some.inj e; omega))
             have RB := hid (RB.out.grown g (fun e => by have := Option.some.inj e; omega))
             have FB := hid (FB.out.grown g (fun e => by have := Option.some.inj e; omega))
             have HB := hid (HB.out.trans (grown_below g (by omega) (by omega)))
             clear kCB2
             have kCB2 : v14.cell? ⟨w.heap.size, 2, none⟩ = some (.slice (some ⟨b2, of2, none⟩) cc.pc.length cpc) := (BoxAt.cell CB.out 2).trans (by show some qc.v2.val = _; rw [HCv.out])
             clear kFB0
             have kFB0 : v14.cell? ⟨v4.heap.size, 0, none⟩ = some (.int .i64 f.pr) := (BoxAt.cell FB.out 0).trans rfl
             clear kFB1
             have kFB1 : v14.cell? ⟨v4.heap.size, 1, none⟩ = some (.int .i64 f.pe) := (BoxAt.cell FB.out 1).trans rfl
             clear kFB2
             have kFB2 : v14.cell? ⟨v4.heap.size, 2, none⟩ = some (.int .i64 f.li) := (BoxAt.cell FB.out 2).trans rfl
             clear kFB3
             have kFB3 : v14.cell? ⟨v4.heap.size, 3, none⟩ = some (.int .i64 f.en) := (BoxAt.cell FB.out 3).trans rfl
             clear b g z hfl FL12)
          | (have hfl := FL13.out
             refine wpList_store_box rfl 3 _ _ rfl rfl v9.heap.size 13 (.int .i64 (wrap64 (n + f.pe))) rfl rfl rfl rfl (by kernel_rfl) _ _ XB.out (by simp [Px.cells]) ?_
             intro v15 b g z
             have hsv15 : v14.heap.size ≤ v15.heap.size := by omega
             have XB := hid (show BoxAt v15 v9.heap.size 58 (Px.cells x1).toArray by rw [← HX1.out]; simpa [Px.cells] using b)
             have CB := hid (CB.out.grown g (fun e => by have := Option.some.inj e; omega))
             have PB := hid (PB.out.grown g (fun e => by have := Option.some.inj e; omega))
             have RB := hid (RB.out.grown g (fun e => by have := Option.some.inj e; omega))
             have FB := hid (FB.out.grown g (fun e => by have := Option.some.inj e; omega))
             have HB := hid (HB.out.trans (grown_below g (by omega) (by omega)))
             clear kCB2
             have kCB2 : v15.cell? ⟨w.heap.size, 2, none⟩ = some (.slice (some ⟨b2, of2, none⟩) cc.pc.length cpc) := (BoxAt.cell CB.out 2).trans (by show some qc.v2.val = _; rw [HCv.out])
             clear kFB0
             have kFB0 : v15.cell? ⟨v4.heap.size, 0, none⟩ = some (.int .i64 f.pr) := (BoxAt.cell FB.out 0).trans rfl
             clear kFB1
             have kFB1 : v15.cell? ⟨v4.heap.size, 1, none⟩ = some (.int .i64 f.pe) := (BoxAt.cell FB.out 1).trans rfl
             clear kFB2
             have kFB2 : v15.cell? ⟨v4.heap.size, 2, none⟩ = some (.int .i64 f.li) := (BoxAt.cell FB.out 2).trans rfl
             clear kFB3
             have kFB3 : v15.cell? ⟨v4.heap.size, 3, none⟩ = some (.int .i64 f.en) := (BoxAt.cell FB.out 3).trans rfl
             clear b g z hfl FL13)
          | (refine wpList_load_box rfl 39 _ rfl v1.heap.size rfl _ _ PB.out _ Try.underlying39 Try.infoPa ?_)
          | (refine wpList_load_box rfl 58 _ rfl v9.heap.size rfl _ _ XB.out _ Try.underlying58 Try.infoPx ?_)
          | fail)
        refine (rqueued_s (x1) HA.out.nx).mono ?_
        rintro e v16 ⟨q2, y, rfl, hy, hq, hb⟩
        have CB := hid (CB.out.belowAll hb)
        have PB := hid (PB.out.belowAll hb)
        have RB := hid (RB.out.belowAll hb)
        have FB := hid (FB.out.belowAll hb)
        have XB := hid (XB.out.belowAll hb)
        have HB := hid (HB.out.trans (hb.mono HB.out.size))
        have hsv16 : v15.heap.size ≤ v16.heap.size := hb.size
        have HQ := hid hq
        have HY := hid hy
        clear hy hq
        clear kCB2
        have kCB2 : v16.cell? ⟨w.heap.size, 2, none⟩ = some (.slice (some ⟨b2, of2, none⟩) cc.pc.length cpc) := (BoxAt.cell CB.out 2).trans (by show some qc.v2.val = _; rw [HCv.out])
        clear kFB0
        have kFB0 : v16.cell? ⟨v4.heap.size, 0, none⟩ = some (.int .i64 f.pr) := (BoxAt.cell FB.out 0).trans rfl
        clear kFB1
        have kFB1 : v16.cell? ⟨v4.heap.size, 1, none⟩ = some (.int .i64 f.pe) := (BoxAt.cell FB.out 1).trans rfl
        clear kFB2
        have kFB2 : v16.cell? ⟨v4.heap.size, 2, none⟩ = some (.int .i64 f.li) := (BoxAt.cell FB.out 2).trans rfl
        clear kFB3
        have kFB3 : v16.cell? ⟨v4.heap.size, 3, none⟩ = some (.int .i64 f.en) := (BoxAt.cell FB.out 3).trans rfl
        clear hb
        have FL14 := hid trivial
        have FL15 := hid trivial
        have FL16 := hid trivial
        have FL17 := hid trivial
        go_wp2_with (first
          | (have hfl := FL14.out
             refine wpList_new rfl 39 rfl _ Try.zeroPa ?_
             intro v17 b h z
             have QB := hid (show BoxAt v17 v16.heap.size 39 (PaV.cells PaV.zero).toArray from b)
             have CB := hid (CB.out.belowAll h)
             have PB := hid (PB.out.belowAll h)
             have RB := hid (RB.out.belowAll h)
             have FB := hid (FB.out.belowAll h)
             have XB := hid (XB.out.belowAll h)
             have HB := hid (HB.out.trans (h.mono HB.out.size))
             have hsv17 : v16.heap.size + 1 ≤ v17.heap.size := by omega
             clear kCB2
             have kCB2 : v17.cell? ⟨w.heap.size, 2, none⟩ = some (.slice (some ⟨b2, of2, none⟩) cc.pc.length cpc) := (BoxAt.cell CB.out 2).trans (by show some qc.v2.val = _; rw [HCv.out])
             clear kFB0
             have kFB0 : v17.cell? ⟨v4.heap.size, 0, none⟩ = some (.int .i64 f.pr) := (BoxAt.cell FB.out 0).trans rfl
             clear kFB1
             have kFB1 : v17.cell? ⟨v4.heap.size, 1, none⟩ = some (.int .i64 f.pe) := (BoxAt.cell FB.out 1).trans rfl
             clear kFB2
             have kFB2 : v17.cell? ⟨v4.heap.size, 2, none⟩ = some (.int .i64 f.li) := (BoxAt.cell FB.out 2).trans rfl
             clear kFB3
             have kFB3 : v17.cell? ⟨v4.heap.size, 3, none⟩ = some (.int .i64 f.en) := (BoxAt.cell FB.out 3).trans rfl
             clear b h z hfl FL14)
          | (have hfl := FL15.out
             refine wpList_new rfl 58 rfl _ Try.zeroPx ?_
             intro v18 b h z
             have YB := hid (show BoxAt v18 v17.heap.size 58 (Px.cells Px.zero).toArray from b)
             have CB := hid (CB.out.belowAll h)
             have PB := hid (PB.out.belowAll h)
             have RB := hid (RB.out.belowAll h)
             have FB := hid (FB.out.belowAll h)
             have XB := hid (XB.out.belowAll h)
             have QB := hid (QB.out.belowAll h)
             have HB := hid (HB.out.trans (h.mono HB.out.size))
             have hsv18 : v17.heap.size + 1 ≤ v18.heap.size := by omega
             clear kCB2
             have kCB2 : v18.cell? ⟨w.heap.size, 2, none⟩ = some (.slice (some ⟨b2, of2, none⟩) cc.pc.length cpc) := (BoxAt.cell CB.out 2).trans (by show some qc.v2.val = _; rw [HCv.out])
             clear kFB0
             have kFB0 : v18.cell? ⟨v4.heap.size, 0, none⟩ = some (.int .i64 f.pr) := (BoxAt.cell FB.out 0).trans rfl
             clear kFB1
             have kFB1 : v18.cell? ⟨v4.heap.size, 1, none⟩ = some (.int .i64 f.pe) := (BoxAt.cell FB.out 1).trans rfl
             clear kFB2
             have kFB2 : v18.cell? ⟨v4.heap.size, 2, none⟩ = some (.int .i64 f.li) := (BoxAt.cell FB.out 2).trans rfl
             clear kFB3
             have kFB3 : v18.cell? ⟨v4.heap.size, 3, none⟩ = some (.int .i64 f.en) := (BoxAt.cell FB.out 3).trans rfl
             clear b h z hfl FL15)
          | (have hfl := FL16.out
             refine wpList_store_whole rfl 39 _ _ rfl rfl v16.heap.size rfl (PaV.cells q2) rfl _ _ QB.out rfl Try.infoPa (PaV.one _) ?_
             intro v19 b g z
             have hsv19 : v18.heap.size ≤ v19.heap.size := by omega
             have QB := hid (show BoxAt v19 v16.heap.size 39 (PaV.cells q2).toArray from b)
             have CB := hid (CB.out.grown g (fun e => by have := Option.some.inj e; omega))
             have PB := hid (PB.out.grown g (fun e => by have := Option.some.inj e; omega))
             have RB := hid (RB.out.grown g (fun e => by have := Option.some.inj e; omega))
             have FB := hid (FB.out.grown g (fun e => by have := Option.some.inj e; omega))
             have XB := hid (XB.out.grown g (fun e => by have := Option.some.inj e; omega))
             have YB := hid (YB.out.grown g (fun e => by have := Option.some.inj e; omega))
             have HB := hid (HB.out.trans (grown_below g (by omega) (by omega)))
             clear kCB2
             have kCB2 : v19.cell? ⟨w.heap.size, 2, none⟩ = some (.slice (some ⟨b2, of2, none⟩) cc.pc.length cpc) := (BoxAt.cell CB.out 2).trans (by show some qc.v2.val = _; rw [HCv.out])
             clear kFB0
             have kFB0 : v19.cell? ⟨v4.heap.size, 0, none⟩ = some (.int .i64 f.pr) := (BoxAt.cell FB.out 0).trans rfl
             clear kFB1
             have kFB1 : v19.cell? ⟨v4.heap.size, 1, none⟩ = some (.int .i64 f.pe) := (BoxAt.cell FB.out 1).trans rfl
             clear kFB2
             have kFB2 : v19.cell? ⟨v4.heap.size, 2, none⟩ = some (.int .i64 f.li) := (BoxAt.cell FB.out 2).trans rfl
             clear kFB3
             have kFB3 : v19.cell? ⟨v4.heap.size, 3, none⟩ = some (.int .i64 f.en) := (BoxAt.cell FB.out 3).trans rfl
             clear b g z hfl FL16)
          | (have hfl := FL17.out
             refine wpList_store_whole rfl 58 _ _ rfl rfl v17.heap.size rfl (Px.cells y) rfl _ _ YB.out rfl Try.infoPx (Px.one _) ?_
             intro v20 b g z
             have hsv20 : v19.heap.size ≤ v20.heap.size := by omega
             have YB := hid (show BoxAt v20 v17.heap.size 58 (Px.cells y).toArray from b)
             have CB := hid (CB.out.grown g (fun e => by have := Option.some.inj e; omega))
             have PB := hid (PB.out.grown g (fun e => by have := Option.some.inj e; omega))
             have RB := hid (RB.out.grown g (fun e => by have := Option.some.inj e; omega))
             have FB := hid (FB.out.grown g (fun e => by have := Option.some.inj e; omega))
             have XB := hid (XB.out.grown g (fun e => by have := Option.some.inj e; omega))
             have QB := hid (QB.out.grown g (fun e => by have := Option.some.inj e; omega))
             have HB := hid (HB.out.trans (grown_below g (by omega) (by omega)))
             clear kCB2
             have kCB2 : v20.cell? ⟨w.heap.size, 2, none⟩ = some (.slice (some ⟨b2, of2, none⟩) cc.pc.length cpc) := (BoxAt.cell CB.out 2).trans (by show some qc.v2.val = _; rw [HCv.out])
             clear kFB0
             have kFB0 : v20.cell? ⟨v4.heap.size, 0, none⟩ = some (.int .i64 f.pr) := (BoxAt.cell FB.out 0).trans rfl
             clear kFB1
             have kFB1 : v20.cell? ⟨v4.heap.size, 1, none⟩ = some (.int .i64 f.pe) := (BoxAt.cell FB.out 1).trans rfl
             clear kFB2
             have kFB2 : v20.cell? ⟨v4.heap.size, 2, none⟩ = some (.int .i64 f.li) := (BoxAt.cell FB.out 2).trans rfl
             clear kFB3
             have kFB3 : v20.cell? ⟨v4.heap.size, 3, none⟩ = some (.int .i64 f.en) := (BoxAt.cell FB.out 3).trans rfl
             clear b g z hfl FL17)
          | (refine wpList_load_box rfl 39 _ rfl v16.heap.size rfl _ _ QB.out _ Try.underlying39 Try.infoPa ?_)
          | (refine wpList_load_box rfl 58 _ rfl v17.heap.size rfl _ _ YB.out _ Try.underlying58 Try.infoPx ?_)
          | fail)
        refine (rwith_s (n := w0.heap.size) (c := { c with nx := wrap64 (c.nx + 1) }) k (y) (by rw [HQ.out]; exact PaS.nx _ (PaS.from HA0.out (H0.out.trans (HB.out.mono h0s)))) (by omega) HSm.out.pr HK.out).mono ?_
        rintro e v21 ⟨q', rfl, ho, hb⟩
        have CB := hid (CB.out.belowAll hb)
        have PB := hid (PB.out.belowAll hb)
        have RB := hid (RB.out.belowAll hb)
        have FB := hid (FB.out.belowAll hb)
        have XB := hid (XB.out.belowAll hb)
        have QB := hid (QB.out.belowAll hb)
        have YB := hid (YB.out.belowAll hb)
        have HB := hid (HB.out.trans (hb.mono HB.out.size))
        have hsv21 : v20.heap.size ≤ v21.heap.size := hb.size
        rw [HY.out] at ho
        have HO := hid ho
        clear ho
        clear kCB2
        have kCB2 : v21.cell? ⟨w.heap.size, 2, none⟩ = some (.slice (some ⟨b2, of2, none⟩) cc.pc.length cpc) := (BoxAt.cell CB.out 2).trans (by show some qc.v2.val = _; rw [HCv.out])
        clear kFB0
        have kFB0 : v21.cell? ⟨v4.heap.size, 0, none⟩ = some (.int .i64 f.pr) := (BoxAt.cell FB.out 0).trans rfl
        clear kFB1
        have kFB1 : v21.cell? ⟨v4.heap.size, 1, none⟩ = some (.int .i64 f.pe) := (BoxAt.cell FB.out 1).trans rfl
        clear kFB2
        have kFB2 : v21.cell? ⟨v4.heap.size, 2, none⟩ = some (.int .i64 f.li) := (BoxAt.cell FB.out 2).trans rfl
        clear kFB3
        have kFB3 : v21.cell? ⟨v4.heap.size, 3, none⟩ = some (.int .i64 f.en) := (BoxAt.cell FB.out 3).trans rfl
        clear hb
        have FL18 := hid trivial
        go_wp2_with (first
          | (have hfl := FL18.out
             refine wpList_store_whole rfl 39 _ _ rfl rfl v2.heap.size rfl (PaV.cells q') rfl _ _ RB.out rfl Try.infoPa (PaV.one _) ?_
             intro v22 b g z
             have hsv22 : v21.heap.size ≤ v22.heap.size := by omega
             have HO := hid (HO.out.put (by omega) (by omega) g RB.out b)
             have RB := hid (show BoxAt v22 v2.heap.size 39 (PaV.cells q').toArray from b)
             have CB := hid (CB.out.grown g (fun e => by have := Option.some.inj e; omega))
             have PB := hid (PB.out.grown g (fun e => by have := Option.some.inj e; omega))
             have FB := hid (FB.out.grown g (fun e => by have := Option.some.inj e; omega))
             have XB := hid (XB.out.grown g (fun e => by have := Option.some.inj e; omega))
             have QB := hid (QB.out.grown g (fun e => by have := Option.some.inj e; omega))
             have YB := hid (YB.out.grown g (fun e => by have := Option.some.inj e; omega))
             have HB := hid (HB.out.trans (grown_below g (by omega) (by omega)))
             clear kCB2
             have kCB2 : v22.cell? ⟨w.heap.size, 2, none⟩ = some (.slice (some ⟨b2, of2, none⟩) cc.pc.length cpc) := (BoxAt.cell CB.out 2).trans (by show some qc.v2.val = _; rw [HCv.out])
             clear kFB0
             have kFB0 : v22.cell? ⟨v4.heap.size, 0, none⟩ = some (.int .i64 f.pr) := (BoxAt.cell FB.out 0).trans rfl
             clear kFB1
             have kFB1 : v22.cell? ⟨v4.heap.size, 1, none⟩ = some (.int .i64 f.pe) := (BoxAt.cell FB.out 1).trans rfl
             clear kFB2
             have kFB2 : v22.cell? ⟨v4.heap.size, 2, none⟩ = some (.int .i64 f.li) := (BoxAt.cell FB.out 2).trans rfl
             clear kFB3
             have kFB3 : v22.cell? ⟨v4.heap.size, 3, none⟩ = some (.int .i64 f.en) := (BoxAt.cell FB.out 3).trans rfl
             clear b g z hfl FL18)
          | fail)
        refine bodyPost_ret (results_box_tmp rfl _ _ (v2.heap.size) 39 _ (0, 0) _ rfl RB.out Try.underlying39 rfl Try.infoPa) rfl ?_
        rw [show startP cc c (k : Int) n = ({ c with pr := c.pr.set k { x1 with si := c.nx }, nx := wrap64 (c.nx + 1) }, 0) from by rw [start_in HCf.out, HF.out]; exact deed_does_q HK.out _ (by rw [HR.out]; exact HD.out)]
        exact ⟨q', rfl, HO.out, HB.out⟩
      · obtain ⟨x1, hx1⟩ : ∃ x : Px, { d with st := 1, pc := f.en, du := wrap64 (n + f.li) } = x := ⟨_, rfl⟩
        have HX1 := hid hx1
        clear hx1
        have HD := hid (show startD f n r = ⟨x1, true, 0⟩ from by unfold startD; rw [if_pos HSt.out, if_pos hli, if_neg hpe, ← HX1.out, ← HDm.out]; try rfl)
        have tpe : decide (0 < f.pe) = false := decide_eq_false hpe
        have FL19 := hid trivial
        have FL20 := hid trivial
        have FL21 := hid trivial
        have FL22 := hid trivial
        have FL23 := hid trivial
        go_wp2_with (first
          | (have hfl := FL19.out
             refine wpList_new rfl 58 rfl _ Try.zeroPx ?_
             intro v23 b h z
             have XB := hid (show BoxAt v23 v9.heap.size 58 (Px.cells Px.zero).toArray from b)
             have CB := hid (CB.out.belowAll h)
             have PB := hid (PB.out.belowAll h)
             have RB := hid (RB.out.belowAll h)
             have FB := hid (FB.out.belowAll h)
             have HB := hid (HB.out.trans (h.mono HB.out.size))
             have hsv23 : v9.heap.size + 1 ≤ v23.heap.size := by omega
             clear kCB2
             have kCB2 : v23.cell? ⟨w.heap.size, 2, none⟩ = some (.slice (some ⟨b2, of2, none⟩) cc.pc.length cpc) := (BoxAt.cell CB.out 2).trans (by show some qc.v2.val = _; rw [HCv.out])
             clear kFB0
             have kFB0 : v23.cell? ⟨v4.heap.size, 0, none⟩ = some (.int .i64 f.pr) := (BoxAt.cell FB.out 0).trans rfl
             clear kFB1
             have kFB1 : v23.cell? ⟨v4.heap.size, 1, none⟩ = some (.int .i64 f.pe) := (BoxAt.cell FB.out 1).trans rfl
             clear kFB2
             have kFB2 : v23.cell? ⟨v4.heap.size, 2, none⟩ = some (.int .i64 f.li) := (BoxAt.cell FB.out 2).trans rfl
             clear kFB3
             have kFB3 : v23.cell? ⟨v4.heap.size, 3, none⟩ = some (.int .i64 f.en) := (BoxAt.cell FB.out 3).trans rfl
             clear b h z hfl FL19)
          | (have hfl := FL20.out
             refine wpList_store_whole rfl 58 _ _ rfl rfl v9.heap.size rfl (Px.cells d) rfl _ _ XB.out rfl Try.infoPx (Px.one _) ?_
             intro v24 b g z
             have hsv24 : v23.heap.size ≤ v24.heap.size := by omega
             have XB := hid (show BoxAt v24 v9.heap.size 58 (Px.cells d).toArray from b)
             have CB := hid (CB.out.grown g (fun e => by have := Option.some.inj e; omega))
             have PB := hid (PB.out.grown g (fun e => by have := Option.some.inj e; omega))
             have RB := hid (RB.out.grown g (fun e => by have := Option.some.inj e; omega))
             have FB := hid (FB.out.grown g (fun e => by have := Option.some.inj e; omega))
             have HB := hid (HB.out.trans (grown_below g (by omega) (by omega)))
             clear kCB2
             have kCB2 : v24.cell? ⟨w.heap.size, 2, none⟩ = some (.slice (some ⟨b2, of2, none⟩) cc.pc.length cpc) := (BoxAt.cell CB.out 2).trans (by show some qc.v2.val = _; rw [HCv.out])
             clear kFB0
             have kFB0 : v24.cell? ⟨v4.heap.size, 0, none⟩ = some (.int .i64 f.pr) := (BoxAt.cell FB.out 0).trans rfl
             clear kFB1
             have kFB1 : v24.cell? ⟨v4.heap.size, 1, none⟩ = some (.int .i64 f.pe) := (BoxAt.cell FB.out 1).trans rfl
             clear kFB2
             have kFB2 : v24.cell? ⟨v4.heap.size, 2, none⟩ = some (.int .i64 f.li) := (BoxAt.cell FB.out 2).trans rfl
             clear kFB3
             have kFB3 : v24.cell? ⟨v4.heap.size, 3, none⟩ = some (.int .i64 f.en) := (BoxAt.cell FB.out 3).trans rfl
             clear b g z hfl FL20)
          | (have hfl := FL21.out
             refine wpList_store_box rfl 3 _ _ rfl rfl v9.heap.size 0 (.int .i64 1) rfl rfl rfl rfl (by kernel_rfl) _ _ XB.out (by simp [Px.cells]) ?_
             intro v25 b g z
             have hsv25 : v24.heap.size ≤ v25.heap.size := by omega
             have XB := hid (show BoxAt v25 v9.heap.size 58 (Px.cells { d with st := 1 }).toArray by simpa [Px.cells] using b)
             have CB := hid (CB.out.grown g (fun e => by have := Option.some.inj e; omega))
             have PB := hid (PB.out.grown g (fun e => by have := Option.some.inj e; omega))
             have RB := hid (RB.out.grown g (fun e => by have := Option.some.inj e; omega))
             have FB := hid (FB.out.grown g (fun e => by have := Option.some.inj e; omega))
             have HB := hid (HB.out.trans (grown_below g (by omega) (by omega)))
             clear kCB2
             have kCB2 : v25.cell? ⟨w.heap.size, 2, none⟩ = some (.slice (some ⟨b2, of2, none⟩) cc.pc.length cpc) := (BoxAt.cell CB.out 2).trans (by show some qc.v2.val = _; rw [HCv.out])
             clear kFB0
             have kFB0 : v25.cell? ⟨v4.heap.size, 0, none⟩ = some (.int .i64 f.pr) := (BoxAt.cell FB.out 0).trans rfl
             clear kFB1
             have kFB1 : v25.cell? ⟨v4.heap.size, 1, none⟩ = some (.int .i64 f.pe) := (BoxAt.cell FB.out 1).trans rfl
             clear kFB2
             have kFB2 : v25.cell? ⟨v4.heap.size, 2, none⟩ = some (.int .i64 f.li) := (BoxAt.cell FB.out 2).trans rfl
             clear kFB3
             have kFB3 : v25.cell? ⟨v4.heap.size, 3, none⟩ = some (.int .i64 f.en) := (BoxAt.cell FB.out 3).trans rfl
             clear b g z hfl FL21)
          | (have hfl := FL22.out
             refine wpList_store_box rfl 3 _ _ rfl rfl v9.heap.size 3 (.int .i64 f.en) rfl rfl rfl rfl (by kernel_rfl) _ _ XB.out (by simp [Px.cells]) ?_
             intro v26 b g z
             have hsv26 : v25.heap.size ≤ v26.heap.size := by omega
             have XB := hid (show BoxAt v26 v9.heap.size 58 (Px.cells { d with st := 1, pc := f.en }).toArray by simpa [Px.cells] using b)
             have CB := hid (CB.out.grown g (fun e => by have := Option.some.inj e; omega))
             have PB := hid (PB.out.grown g (fun e => by have := Option.some.inj e; omega))
             have RB := hid (RB.out.grown g (fun e => by have := Option.some.inj e; omega))
             have FB := hid (FB.out.grown g (fun e => by have := Option.some.inj e; omega))
             have HB := hid (HB.out.trans (grown_below g (by omega) (by omega)))
             clear kCB2
             have kCB2 : v26.cell? ⟨w.heap.size, 2, none⟩ = some (.slice (some ⟨b2, of2, none⟩) cc.pc.length cpc) := (BoxAt.cell CB.out 2).trans (by show some qc.v2.val = _; rw [HCv.out])
             clear kFB0
             have kFB0 : v26.cell? ⟨v4.heap.size, 0, none⟩ = some (.int .i64 f.pr) := (BoxAt.cell FB.out 0).trans rfl
             clear kFB1
             have kFB1 : v26.cell? ⟨v4.heap.size, 1, none⟩ = some (.int .i64 f.pe) := (BoxAt.cell FB.out 1).trans rfl
             clear kFB2
             have kFB2 : v26.cell? ⟨v4.heap.size, 2, none⟩ = some (.int .i64 f.li) := (BoxAt.cell FB.out 2).trans rfl
             clear kFB3
             have kFB3 : v26.cell? ⟨v4.heap.size, 3, none⟩ = some (.int .i64 f.en) := (BoxAt.cell FB.out 3).trans rfl
             clear b g z hfl FL22)
          | (have hfl := FL23.out
             refine wpList_store_box rfl 3 _ _ rfl rfl v9.heap.size 12 (.int .i64 (wrap64 (n + f.li))) rfl rfl rfl rfl (by kernel_rfl) _ _ XB.out (by simp [Px.cells]) ?_
             intro v27 b g z
             have hsv27 : v26.heap.size ≤ v27.heap.size := by omega
             have XB := hid (show BoxAt v27 v9.heap.size 58 (Px.cells x1).toArray by rw [← HX1.out]; simpa [Px.cells] using b)
             have CB := hid (CB.out.grown g (fun e => by have := Option.some.inj e; omega))
             have PB := hid (PB.out.grown g (fun e => by have := Option.some.inj e; omega))
             have RB := hid (RB.out.grown g (fun e => by have := Option.some.inj e; omega))
             have FB := hid (FB.out.grown g (fun e => by have := Option.some.inj e; omega))
             have HB := hid (HB.out.trans (grown_below g (by omega) (by omega)))
             clear kCB2
             have kCB2 : v27.cell? ⟨w.heap.size, 2, none⟩ = some (.slice (some ⟨b2, of2, none⟩) cc.pc.length cpc) := (BoxAt.cell CB.out 2).trans (by show some qc.v2.val = _; rw [HCv.out])
             clear kFB0
             have kFB0 : v27.cell? ⟨v4.heap.size, 0, none⟩ = some (.int .i64 f.pr) := (BoxAt.cell FB.out 0).trans rfl
             clear kFB1
             have kFB1 : v27.cell? ⟨v4.heap.size, 1, none⟩ = some (.int .i64 f.pe) := (BoxAt.cell FB.out 1).trans rfl
             clear kFB2
             have kFB2 : v27.cell? ⟨v4.heap.size, 2, none⟩ = some (.int .i64 f.li) := (BoxAt.cell FB.out 2).trans rfl
             clear kFB3
             have kFB3 : v27.cell? ⟨v4.heap.size, 3, none⟩ = some (.int .i64 f.en) := (BoxAt.cell FB.out 3).trans rfl
             clear b g z hfl FL23)
          | (refine wpList_load_box rfl 39 _ rfl v1.heap.size rfl _ _ PB.out _ Try.underlying39 Try.infoPa ?_)
          | (refine wpList_load_box rfl 58 _ rfl v9.heap.size rfl _ _ XB.out _ Try.underlying58 Try.infoPx ?_)
          | fail)
        refine (rqueued_s (x1) HA.out.nx).mono ?_
        rintro e v28 ⟨q2, y, rfl, hy, hq, hb⟩
        have CB := hid (CB.out.belowAll hb)
        have PB := hid (PB.out.belowAll hb)
        have RB := hid (RB.out.belowAll hb)
        have FB := hid (FB.out.belowAll hb)
        have XB := hid (XB.out.belowAll hb)
        have HB := hid (HB.out.trans (hb.mono HB.out.size))
        have hsv28 : v27.heap.size ≤ v28.heap.size := hb.size
        have HQ := hid hq
        have HY := hid hy
        clear hy hq
        clear kCB2
        have kCB2 : v28.cell? ⟨w.heap.size, 2, none⟩ = some (.slice (some ⟨b2, of2, none⟩) cc.pc.length cpc) := (BoxAt.cell CB.out 2).trans (by show some qc.v2.val = _; rw [HCv.out])
        clear kFB0
        have kFB0 : v28.cell? ⟨v4.heap.size, 0, none⟩ = some (.int .i64 f.pr) := (BoxAt.cell FB.out 0).trans rfl
        clear kFB1
        have kFB1 : v28.cell? ⟨v4.heap.size, 1, none⟩ = some (.int .i64 f.pe) := (BoxAt.cell FB.out 1).trans rfl
        clear kFB2
        have kFB2 : v28.cell? ⟨v4.heap.size, 2, none⟩ = some (.int .i64 f.li) := (BoxAt.cell FB.out 2).trans rfl
        clear kFB3
        have kFB3 : v28.cell? ⟨v4.heap.size, 3, none⟩ = some (.int .i64 f.en) := (BoxAt.cell FB.out 3).trans rfl
        clear hb
        have FL24 := hid trivial
        have FL25 := hid trivial
        have FL26 := hid trivial
        have FL27 := hid trivial
        go_wp2_with (first
          | (have hfl := FL24.out
             refine wpList_new rfl 39 rfl _ Try.zeroPa ?_
             intro v29 b h z
             have QB := hid (show BoxAt v29 v28.heap.size 39 (PaV.cells PaV.zero).toArray from b)
             have CB := hid (CB.out.belowAll h)
             have PB := hid (PB.out.belowAll h)
             have RB := hid (RB.out.belowAll h)
             have FB := hid (FB.out.belowAll h)
             have XB := hid (XB.out.belowAll h)
             have HB := hid (HB.out.trans (h.mono HB.out.size))
             have hsv29 : v28.heap.size + 1 ≤ v29.heap.size := by omega
             clear kCB2
             have kCB2 : v29.cell? ⟨w.heap.size, 2, none⟩ = some (.slice (some ⟨b2, of2, none⟩) cc.pc.length cpc) := (BoxAt.cell CB.out 2).trans (by show some qc.v2.val = _; rw [HCv.out])
             clear kFB0
             have kFB0 : v29.cell? ⟨v4.heap.size, 0, none⟩ = some (.int .i64 f.pr) := (BoxAt.cell FB.out 0).trans rfl
             clear kFB1
             have kFB1 : v29.cell? ⟨v4.heap.size, 1, none⟩ = some (.int .i64 f.pe) := (BoxAt.cell FB.out 1).trans rfl
             clear kFB2
             have kFB2 : v29.cell? ⟨v4.heap.size, 2, none⟩ = some (.int .i64 f.li) := (BoxAt.cell FB.out 2).trans rfl
             clear kFB3
             have kFB3 : v29.cell? ⟨v4.heap.size, 3, none⟩ = some (.int .i64 f.en) := (BoxAt.cell FB.out 3).trans rfl
             clear b h z hfl FL24)
          | (have hfl := FL25.out
             refine wpList_new rfl 58 rfl _ Try.zeroPx ?_
             intro v30 b h z
             have YB := hid (show BoxAt v30 v29.heap.size 58 (Px.cells Px.zero).toArray from b)
             have CB := hid (CB.out.belowAll h)
             have PB := hid (PB.out.belowAll h)
             have RB := hid (RB.out.belowAll h)
             have FB := hid (FB.out.belowAll h)
             have XB := hid (XB.out.belowAll h)
             have QB := hid (QB.out.belowAll h)
             have HB := hid (HB.out.trans (h.mono HB.out.size))
             have hsv30 : v29.heap.size + 1 ≤ v30.heap.size := by omega
             clear kCB2
             have kCB2 : v30.cell? ⟨w.heap.size, 2, none⟩ = some (.slice (some ⟨b2, of2, none⟩) cc.pc.length cpc) := (BoxAt.cell CB.out 2).trans (by show some qc.v2.val = _; rw [HCv.out])
             clear kFB0
             have kFB0 : v30.cell? ⟨v4.heap.size, 0, none⟩ = some (.int .i64 f.pr) := (BoxAt.cell FB.out 0).trans rfl
             clear kFB1
             have kFB1 : v30.cell? ⟨v4.heap.size, 1, none⟩ = some (.int .i64 f.pe) := (BoxAt.cell FB.out 1).trans rfl
             clear kFB2
             have kFB2 : v30.cell? ⟨v4.heap.size, 2, none⟩ = some (.int .i64 f.li) := (BoxAt.cell FB.out 2).trans rfl
             clear kFB3
             have kFB3 : v30.cell? ⟨v4.heap.size, 3, none⟩ = some (.int .i64 f.en) := (BoxAt.cell FB.out 3).trans rfl
             clear b h z hfl FL25)
          | (have hfl := FL26.out
             refine wpList_store_whole rfl 39 _ _ rfl rfl v28.heap.size rfl (PaV.cells q2) rfl _ _ QB.out rfl Try.infoPa (PaV.one _) ?_
             intro v31 b g z
             have hsv31 : v30.heap.size ≤ v31.heap.size := by omega
             have QB := hid (show BoxAt v31 v28.heap.size 39 (PaV.cells q2).toArray from b)
             have CB := hid (CB.out.grown g (fun e => by have := Option.some.inj e; omega))
             have PB := hid (PB.out.grown g (fun e => by have := Option.some.inj e; omega))
             have RB := hid (RB.out.grown g (fun e => by have := Option.some.inj e; omega))
             have FB := hid (FB.out.grown g (fun e => by have := Option.some.inj e; omega))
             have XB := hid (XB.out.grown g (fun e => by have := Option.some.inj e; omega))
             have YB := hid (YB.out.grown g (fun e => by have := Option.some.inj e; omega))
             have HB := hid (HB.out.trans (grown_below g (by omega) (by omega)))
             clear kCB2
             have kCB2 : v31.cell? ⟨w.heap.size, 2, none⟩ = some (.slice (some ⟨b2, of2, none⟩) cc.pc.length cpc) := (BoxAt.cell CB.out 2).trans (by show some qc.v2.val = _; rw [HCv.out])
             clear kFB0
             have kFB0 : v31.cell? ⟨v4.heap.size, 0, none⟩ = some (.int .i64 f.pr) := (BoxAt.cell FB.out 0).trans rfl
             clear kFB1
             have kFB1 : v31.cell? ⟨v4.heap.size, 1, none⟩ = some (.int .i64 f.pe) := (BoxAt.cell FB.out 1).trans rfl
             clear kFB2
             have kFB2 : v31.cell? ⟨v4.heap.size, 2, none⟩ = some (.int .i64 f.li) := (BoxAt.cell FB.out 2).trans rfl
             clear kFB3
             have kFB3 : v31.cell? ⟨v4.heap.size, 3, none⟩ = some (.int .i64 f.en) := (BoxAt.cell FB.out 3).trans rfl
             clear b g z hfl FL26)
          | (have hfl := FL27.out
             refine wpList_store_whole rfl 58 _ _ rfl rfl v29.heap.size rfl (Px.cells y) rfl _ _ YB.out rfl Try.infoPx (Px.one _) ?_
             intro v32 b g z
             have hsv32 : v31.heap.size ≤ v32.heap.size := by omega
             have YB := hid (show BoxAt v32 v29.heap.size 58 (Px.cells y).toArray from b)
             have CB := hid (CB.out.grown g (fun e => by have := Option.some.inj e; omega))
             have PB := hid (PB.out.grown g (fun e => by have := Option.some.inj e; omega))
             have RB := hid (RB.out.grown g (fun e => by have := Option.some.inj e; omega))
             have FB := hid (FB.out.grown g (fun e => by have := Option.some.inj e; omega))
             have XB := hid (XB.out.grown g (fun e => by have := Option.some.inj e; omega))
             have QB := hid (QB.out.grown g (fun e => by have := Option.some.inj e; omega))
             have HB := hid (HB.out.trans (grown_below g (by omega) (by omega)))
             clear kCB2
             have kCB2 : v32.cell? ⟨w.heap.size, 2, none⟩ = some (.slice (some ⟨b2, of2, none⟩) cc.pc.length cpc) := (BoxAt.cell CB.out 2).trans (by show some qc.v2.val = _; rw [HCv.out])
             clear kFB0
             have kFB0 : v32.cell? ⟨v4.heap.size, 0, none⟩ = some (.int .i64 f.pr) := (BoxAt.cell FB.out 0).trans rfl
             clear kFB1
             have kFB1 : v32.cell? ⟨v4.heap.size, 1, none⟩ = some (.int .i64 f.pe) := (BoxAt.cell FB.out 1).trans rfl
             clear kFB2
             have kFB2 : v32.cell? ⟨v4.heap.size, 2, none⟩ = some (.int .i64 f.li) := (BoxAt.cell FB.out 2).trans rfl
             clear kFB3
             have kFB3 : v32.cell? ⟨v4.heap.size, 3, none⟩ = some (.int .i64 f.en) := (BoxAt.cell FB.out 3).trans rfl
             clear b g z hfl FL27)
          | (refine wpList_load_box rfl 39 _ rfl v28.heap.size rfl _ _ QB.out _ Try.underlying39 Try.infoPa ?_)
          | (refine wpList_load_box rfl 58 _ rfl v29.heap.size rfl _ _ YB.out _ Try.underlying58 Try.infoPx ?_)
          | fail)
        refine (rwith_s (n := w0.heap.size) (c := { c with nx := wrap64 (c.nx + 1) }) k (y) (by rw [HQ.out]; exact PaS.nx _ (PaS.from HA0.out (H0.out.trans (HB.out.mono h0s)))) (by omega) HSm.out.pr HK.out).mono ?_
        rintro e v33 ⟨q', rfl, ho, hb⟩
        have CB := hid (CB.out.belowAll hb)
        have PB := hid (PB.out.belowAll hb)
        have RB := hid (RB.out.belowAll hb)
        have FB := hid (FB.out.belowAll hb)
        have XB := hid (XB.out.belowAll hb)
        have QB := hid (QB.out.belowAll hb)
        have YB := hid (YB.out.belowAll hb)
        have HB := hid (HB.out.trans (hb.mono HB.out.size))
        have hsv33 : v32.heap.size ≤ v33.heap.size := hb.size
        rw [HY.out] at ho
        have HO := hid ho
        clear ho
        clear kCB2
        have kCB2 : v33.cell? ⟨w.heap.size, 2, none⟩ = some (.slice (some ⟨b2, of2, none⟩) cc.pc.length cpc) := (BoxAt.cell CB.out 2).trans (by show some qc.v2.val = _; rw [HCv.out])
        clear kFB0
        have kFB0 : v33.cell? ⟨v4.heap.size, 0, none⟩ = some (.int .i64 f.pr) := (BoxAt.cell FB.out 0).trans rfl
        clear kFB1
        have kFB1 : v33.cell? ⟨v4.heap.size, 1, none⟩ = some (.int .i64 f.pe) := (BoxAt.cell FB.out 1).trans rfl
        clear kFB2
        have kFB2 : v33.cell? ⟨v4.heap.size, 2, none⟩ = some (.int .i64 f.li) := (BoxAt.cell FB.out 2).trans rfl
        clear kFB3
        have kFB3 : v33.cell? ⟨v4.heap.size, 3, none⟩ = some (.int .i64 f.en) := (BoxAt.cell FB.out 3).trans rfl
        clear hb
        have FL28 := hid trivial
        go_wp2_with (first
          | (have hfl := FL28.out
             refine wpList_store_whole rfl 39 _ _ rfl rfl v2.heap.size rfl (PaV.cells q') rfl _ _ RB.out rfl Try.infoPa (PaV.one _) ?_
             intro v34 b g z
             have hsv34 : v33.heap.size ≤ v34.heap.size := by omega
             have HO := hid (HO.out.put (by omega) (by omega) g RB.out b)
             have RB := hid (show BoxAt v34 v2.heap.size 39 (PaV.cells q').toArray from b)
             have CB := hid (CB.out.grown g (fun e => by have := Option.some.inj e; omega))
             have PB := hid (PB.out.grown g (fun e => by have := Option.some.inj e; omega))
             have FB := hid (FB.out.grown g (fun e => by have := Option.some.inj e; omega))
             have XB := hid (XB.out.grown g (fun e => by have := Option.some.inj e; omega))
             have QB := hid (QB.out.grown g (fun e => by have := Option.some.inj e; omega))
             have YB := hid (YB.out.grown g (fun e => by have := Option.some.inj e; omega))
             have HB := hid (HB.out.trans (grown_below g (by omega) (by omega)))
             clear kCB2
             have kCB2 : v34.cell? ⟨w.heap.size, 2, none⟩ = some (.slice (some ⟨b2, of2, none⟩) cc.pc.length cpc) := (BoxAt.cell CB.out 2).trans (by show some qc.v2.val = _; rw [HCv.out])
             clear kFB0
             have kFB0 : v34.cell? ⟨v4.heap.size, 0, none⟩ = some (.int .i64 f.pr) := (BoxAt.cell FB.out 0).trans rfl
             clear kFB1
             have kFB1 : v34.cell? ⟨v4.heap.size, 1, none⟩ = some (.int .i64 f.pe) := (BoxAt.cell FB.out 1).trans rfl
             clear kFB2
             have kFB2 : v34.cell? ⟨v4.heap.size, 2, none⟩ = some (.int .i64 f.li) := (BoxAt.cell FB.out 2).trans rfl
             clear kFB3
             have kFB3 : v34.cell? ⟨v4.heap.size, 3, none⟩ = some (.int .i64 f.en) := (BoxAt.cell FB.out 3).trans rfl
             clear b g z hfl FL28)
          | fail)
        refine bodyPost_ret (results_box_tmp rfl _ _ (v2.heap.size) 39 _ (0, 0) _ rfl RB.out Try.underlying39 rfl Try.infoPa) rfl ?_
        rw [show startP cc c (k : Int) n = ({ c with pr := c.pr.set k { x1 with si := c.nx }, nx := wrap64 (c.nx + 1) }, 0) from by rw [start_in HCf.out, HF.out]; exact deed_does_q HK.out _ (by rw [HR.out]; exact HD.out)]
        exact ⟨q', rfl, HO.out, HB.out⟩
    · by_cases hpe : 0 < f.pe
      · obtain ⟨x1, hx1⟩ : ∃ x : Px, { d with st := 1, pc := f.en, ne := wrap64 (n + f.pe) } = x := ⟨_, rfl⟩
        have HX1 := hid hx1
        clear hx1
        have HD := hid (show startD f n r = ⟨x1, true, 0⟩ from by unfold startD; rw [if_pos HSt.out, if_neg hli, if_pos hpe, ← HX1.out, ← HDm.out]; try rfl)
        have tli : decide (0 < f.li) = false := decide_eq_false hli
        have FL29 := hid trivial
        have FL30 := hid trivial
        have FL31 := hid trivial
        have FL32 := hid trivial
        have FL33 := hid trivial
        go_wp2_with (first
          | (have hfl := FL29.out
             refine wpList_new rfl 58 rfl _ Try.zeroPx ?_
             intro v35 b h z
             have XB := hid (show BoxAt v35 v9.heap.size 58 (Px.cells Px.zero).toArray from b)
             have CB := hid (CB.out.belowAll h)
             have PB := hid (PB.out.belowAll h)
             have RB := hid (RB.out.belowAll h)
             have FB := hid (FB.out.belowAll h)
             have HB := hid (HB.out.trans (h.mono HB.out.size))
             have hsv35 : v9.heap.size + 1 ≤ v35.heap.size := by omega
             clear kCB2
             have kCB2 : v35.cell? ⟨w.heap.size, 2, none⟩ = some (.slice (some ⟨b2, of2, none⟩) cc.pc.length cpc) := (BoxAt.cell CB.out 2).trans (by show some qc.v2.val = _; rw [HCv.out])
             clear kFB0
             have kFB0 : v35.cell? ⟨v4.heap.size, 0, none⟩ = some (.int .i64 f.pr) := (BoxAt.cell FB.out 0).trans rfl
             clear kFB1
             have kFB1 : v35.cell? ⟨v4.heap.size, 1, none⟩ = some (.int .i64 f.pe) := (BoxAt.cell FB.out 1).trans rfl
             clear kFB2
             have kFB2 : v35.cell? ⟨v4.heap.size, 2, none⟩ = some (.int .i64 f.li) := (BoxAt.cell FB.out 2).trans rfl
             clear kFB3
             have kFB3 : v35.cell? ⟨v4.heap.size, 3, none⟩ = some (.int .i64 f.en) := (BoxAt.cell FB.out 3).trans rfl
             clear b h z hfl FL29)
          | (have hfl := FL30.out
             refine wpList_store_whole rfl 58 _ _ rfl rfl v9.heap.size rfl (Px.cells d) rfl _ _ XB.out rfl Try.infoPx (Px.one _) ?_
             intro v36 b g z
             have hsv36 : v35.heap.size ≤ v36.heap.size := by omega
             have XB := hid (show BoxAt v36 v9.heap.size 58 (Px.cells d).toArray from b)
             have CB := hid (CB.out.grown g (fun e => by have := Option.some.inj e; omega))
             have PB := hid (PB.out.grown g (fun e => by have := Option.some.inj e; omega))
             have RB := hid (RB.out.grown g (fun e => by have := Option.some.inj e; omega))
             have FB := hid (FB.out.grown g (fun e => by have := Option.some.inj e; omega))
             have HB := hid (HB.out.trans (grown_below g (by omega) (by omega)))
             clear kCB2
             have kCB2 : v36.cell? ⟨w.heap.size, 2, none⟩ = some (.slice (some ⟨b2, of2, none⟩) cc.pc.length cpc) := (BoxAt.cell CB.out 2).trans (by show some qc.v2.val = _; rw [HCv.out])
             clear kFB0
             have kFB0 : v36.cell? ⟨v4.heap.size, 0, none⟩ = some (.int .i64 f.pr) := (BoxAt.cell FB.out 0).trans rfl
             clear kFB1
             have kFB1 : v36.cell? ⟨v4.heap.size, 1, none⟩ = some (.int .i64 f.pe) := (BoxAt.cell FB.out 1).trans rfl
             clear kFB2
             have kFB2 : v36.cell? ⟨v4.heap.size, 2, none⟩ = some (.int .i64 f.li) := (BoxAt.cell FB.out 2).trans rfl
             clear kFB3
             have kFB3 : v36.cell? ⟨v4.heap.size, 3, none⟩ = some (.int .i64 f.en) := (BoxAt.cell FB.out 3).trans rfl
             clear b g z hfl FL30)
          | (have hfl := FL31.out
             refine wpList_store_box rfl 3 _ _ rfl rfl v9.heap.size 0 (.int .i64 1) rfl rfl rfl rfl (by kernel_rfl) _ _ XB.out (by simp [Px.cells]) ?_
             intro v37 b g z
             have hsv37 : v36.heap.size ≤ v37.heap.size := by omega
             have XB := hid (show BoxAt v37 v9.heap.size 58 (Px.cells { d with st := 1 }).toArray by simpa [Px.cells] using b)
             have CB := hid (CB.out.grown g (fun e => by have := Option.some.inj e; omega))
             have PB := hid (PB.out.grown g (fun e => by have := Option.some.inj e; omega))
             have RB := hid (RB.out.grown g (fun e => by have := Option.some.inj e; omega))
             have FB := hid (FB.out.grown g (fun e => by have := Option.some.inj e; omega))
             have HB := hid (HB.out.trans (grown_below g (by omega) (by omega)))
             clear kCB2
             have kCB2 : v37.cell? ⟨w.heap.size, 2, none⟩ = some (.slice (some ⟨b2, of2, none⟩) cc.pc.length cpc) := (BoxAt.cell CB.out 2).trans (by show some qc.v2.val = _; rw [HCv.out])
             clear kFB0
             have kFB0 : v37.cell? ⟨v4.heap.size, 0, none⟩ = some (.int .i64 f.pr) := (BoxAt.cell FB.out 0).trans rfl
             clear kFB1
             have kFB1 : v37.cell? ⟨v4.heap.size, 1, none⟩ = some (.int .i64 f.pe) := (BoxAt.cell FB.out 1).trans rfl
             clear kFB2
             have kFB2 : v37.cell? ⟨v4.heap.size, 2, none⟩ = some (.int .i64 f.li) := (BoxAt.cell FB.out 2).trans rfl
             clear kFB3
             have kFB3 : v37.cell? ⟨v4.heap.size, 3, none⟩ = some (.int .i64 f.en) := (BoxAt.cell FB.out 3).trans rfl
             clear b g z hfl FL31)
          | (have hfl := FL32.out
             refine wpList_store_box rfl 3 _ _ rfl rfl v9.heap.size 3 (.int .i64 f.en) rfl rfl rfl rfl (by kernel_rfl) _ _ XB.out (by simp [Px.cells]) ?_
             intro v38 b g z
             have hsv38 : v37.heap.size ≤ v38.heap.size := by omega
             have XB := hid (show BoxAt v38 v9.heap.size 58 (Px.cells { d with st := 1, pc := f.en }).toArray by simpa [Px.cells] using b)
             have CB := hid (CB.out.grown g (fun e => by have := Option.some.inj e; omega))
             have PB := hid (PB.out.grown g (fun e => by have := Option.some.inj e; omega))
             have RB := hid (RB.out.grown g (fun e => by have := Option.some.inj e; omega))
             have FB := hid (FB.out.grown g (fun e => by have := Option.some.inj e; omega))
             have HB := hid (HB.out.trans (grown_below g (by omega) (by omega)))
             clear kCB2
             have kCB2 : v38.cell? ⟨w.heap.size, 2, none⟩ = some (.slice (some ⟨b2, of2, none⟩) cc.pc.length cpc) := (BoxAt.cell CB.out 2).trans (by show some qc.v2.val = _; rw [HCv.out])
             clear kFB0
             have kFB0 : v38.cell? ⟨v4.heap.size, 0, none⟩ = some (.int .i64 f.pr) := (BoxAt.cell FB.out 0).trans rfl
             clear kFB1
             have kFB1 : v38.cell? ⟨v4.heap.size, 1, none⟩ = some (.int .i64 f.pe) := (BoxAt.cell FB.out 1).trans rfl
             clear kFB2
             have kFB2 : v38.cell? ⟨v4.heap.size, 2, none⟩ = some (.int .i64 f.li) := (BoxAt.cell FB.out 2).trans rfl
             clear kFB3
             have kFB3 : v38.cell? ⟨v4.heap.size, 3, none⟩ = some (.int .i64 f.en) := (BoxAt.cell FB.out 3).trans rfl
             clear b g z hfl FL32)
          | (have hfl := FL33.out
             refine wpList_store_box rfl 3 _ _ rfl rfl v9.heap.size 13 (.int .i64 (wrap64 (n + f.pe))) rfl rfl rfl rfl (by kernel_rfl) _ _ XB.out (by simp [Px.cells]) ?_
             intro v39 b g z
             have hsv39 : v38.heap.size ≤ v39.heap.size := by omega
             have XB := hid (show BoxAt v39 v9.heap.size 58 (Px.cells x1).toArray by rw [← HX1.out]; simpa [Px.cells] using b)
             have CB := hid (CB.out.grown g (fun e => by have := Option.some.inj e; omega))
             have PB := hid (PB.out.grown g (fun e => by have := Option.some.inj e; omega))
             have RB := hid (RB.out.grown g (fun e => by have := Option.some.inj e; omega))
             have FB := hid (FB.out.grown g (fun e => by have := Option.some.inj e; omega))
             have HB := hid (HB.out.trans (grown_below g (by omega) (by omega)))
             clear kCB2
             have kCB2 : v39.cell? ⟨w.heap.size, 2, none⟩ = some (.slice (some ⟨b2, of2, none⟩) cc.pc.length cpc) := (BoxAt.cell CB.out 2).trans (by show some qc.v2.val = _; rw [HCv.out])
             clear kFB0
             have kFB0 : v39.cell? ⟨v4.heap.size, 0, none⟩ = some (.int .i64 f.pr) := (BoxAt.cell FB.out 0).trans rfl
             clear kFB1
             have kFB1 : v39.cell? ⟨v4.heap.size, 1, none⟩ = some (.int .i64 f.pe) := (BoxAt.cell FB.out 1).trans rfl
             clear kFB2
             have kFB2 : v39.cell? ⟨v4.heap.size, 2, none⟩ = some (.int .i64 f.li) := (BoxAt.cell FB.out 2).trans rfl
             clear kFB3
             have kFB3 : v39.cell? ⟨v4.heap.size, 3, none⟩ = some (.int .i64 f.en) := (BoxAt.cell FB.out 3).trans rfl
             clear b g z hfl FL33)
          | (refine wpList_load_box rfl 39 _ rfl v1.heap.size rfl _ _ PB.out _ Try.underlying39 Try.infoPa ?_)
          | (refine wpList_load_box rfl 58 _ rfl v9.heap.size rfl _ _ XB.out _ Try.underlying58 Try.infoPx ?_)
          | fail)
        refine (rqueued_s (x1) HA.out.nx).mono ?_
        rintro e v40 ⟨q2, y, rfl, hy, hq, hb⟩
        have CB := hid (CB.out.belowAll hb)
        have PB := hid (PB.out.belowAll hb)
        have RB := hid (RB.out.belowAll hb)
        have FB := hid (FB.out.belowAll hb)
        have XB := hid (XB.out.belowAll hb)
        have HB := hid (HB.out.trans (hb.mono HB.out.size))
        have hsv40 : v39.heap.size ≤ v40.heap.size := hb.size
        have HQ := hid hq
        have HY := hid hy
        clear hy hq
        clear kCB2
        have kCB2 : v40.cell? ⟨w.heap.size, 2, none⟩ = some (.slice (some ⟨b2, of2, none⟩) cc.pc.length cpc) := (BoxAt.cell CB.out 2).trans (by show some qc.v2.val = _; rw [HCv.out])
        clear kFB0
        have kFB0 : v40.cell? ⟨v4.heap.size, 0, none⟩ = some (.int .i64 f.pr) := (BoxAt.cell FB.out 0).trans rfl
        clear kFB1
        have kFB1 : v40.cell? ⟨v4.heap.size, 1, none⟩ = some (.int .i64 f.pe) := (BoxAt.cell FB.out 1).trans rfl
        clear kFB2
        have kFB2 : v40.cell? ⟨v4.heap.size, 2, none⟩ = some (.int .i64 f.li) := (BoxAt.cell FB.out 2).trans rfl
        clear kFB3
        have kFB3 : v40.cell? ⟨v4.heap.size, 3, none⟩ = some (.int .i64 f.en) := (BoxAt.cell FB.out 3).trans rfl
        clear hb
        have FL34 := hid trivial
        have FL35 := hid trivial
        have FL36 := hid trivial
        have FL37 := hid trivial
        go_wp2_with (first
          | (have hfl := FL34.out
             refine wpList_new rfl 39 rfl _ Try.zeroPa ?_
             intro v41 b h z
             have QB := hid (show BoxAt v41 v40.heap.size 39 (PaV.cells PaV.zero).toArray from b)
             have CB := hid (CB.out.belowAll h)
             have PB := hid (PB.out.belowAll h)
             have RB := hid (RB.out.belowAll h)
             have FB := hid (FB.out.belowAll h)
             have XB := hid (XB.out.belowAll h)
             have HB := hid (HB.out.trans (h.mono HB.out.size))
             have hsv41 : v40.heap.size + 1 ≤ v41.heap.size := by omega
             clear kCB2
             have kCB2 : v41.cell? ⟨w.heap.size, 2, none⟩ = some (.slice (some ⟨b2, of2, none⟩) cc.pc.length cpc) := (BoxAt.cell CB.out 2).trans (by show some qc.v2.val = _; rw [HCv.out])
             clear kFB0
             have kFB0 : v41.cell? ⟨v4.heap.size, 0, none⟩ = some (.int .i64 f.pr) := (BoxAt.cell FB.out 0).trans rfl
             clear kFB1
             have kFB1 : v41.cell? ⟨v4.heap.size, 1, none⟩ = some (.int .i64 f.pe) := (BoxAt.cell FB.out 1).trans rfl
             clear kFB2
             have kFB2 : v41.cell? ⟨v4.heap.size, 2, none⟩ = some (.int .i64 f.li) := (BoxAt.cell FB.out 2).trans rfl
             clear kFB3
             have kFB3 : v41.cell? ⟨v4.heap.size, 3, none⟩ = some (.int .i64 f.en) := (BoxAt.cell FB.out 3).trans rfl
             clear b h z hfl FL34)
          | (have hfl := FL35.out
             refine wpList_new rfl 58 rfl _ Try.zeroPx ?_
             intro v42 b h z
             have YB := hid (show BoxAt v42 v41.heap.size 58 (Px.cells Px.zero).toArray from b)
             have CB := hid (CB.out.belowAll h)
             have PB := hid (PB.out.belowAll h)
             have RB := hid (RB.out.belowAll h)
             have FB := hid (FB.out.belowAll h)
             have XB := hid (XB.out.belowAll h)
             have QB := hid (QB.out.belowAll h)
             have HB := hid (HB.out.trans (h.mono HB.out.size))
             have hsv42 : v41.heap.size + 1 ≤ v42.heap.size := by omega
             clear kCB2
             have kCB2 : v42.cell? ⟨w.heap.size, 2, none⟩ = some (.slice (some ⟨b2, of2, none⟩) cc.pc.length cpc) := (BoxAt.cell CB.out 2).trans (by show some qc.v2.val = _; rw [HCv.out])
             clear kFB0
             have kFB0 : v42.cell? ⟨v4.heap.size, 0, none⟩ = some (.int .i64 f.pr) := (BoxAt.cell FB.out 0).trans rfl
             clear kFB1
             have kFB1 : v42.cell? ⟨v4.heap.size, 1, none⟩ = some (.int .i64 f.pe) := (BoxAt.cell FB.out 1).trans rfl
             clear kFB2
             have kFB2 : v42.cell? ⟨v4.heap.size, 2, none⟩ = some (.int .i64 f.li) := (BoxAt.cell FB.out 2).trans rfl
             clear kFB3
             have kFB3 : v42.cell? ⟨v4.heap.size, 3, none⟩ = some (.int .i64 f.en) := (BoxAt.cell FB.out 3).trans rfl
             clear b h z hfl FL35)
          | (have hfl := FL36.out
             refine wpList_store_whole rfl 39 _ _ rfl rfl v40.heap.size rfl (PaV.cells q2) rfl _ _ QB.out rfl Try.infoPa (PaV.one _) ?_
             intro v43 b g z
             have hsv43 : v42.heap.size ≤ v43.heap.size := by omega
             have QB := hid (show BoxAt v43 v40.heap.size 39 (PaV.cells q2).toArray from b)
             have CB := hid (CB.out.grown g (fun e => by have := Option.some.inj e; omega))
             have PB := hid (PB.out.grown g (fun e => by have := Option.some.inj e; omega))
             have RB := hid (RB.out.grown g (fun e => by have := Option.some.inj e; omega))
             have FB := hid (FB.out.grown g (fun e => by have := Option.some.inj e; omega))
             have XB := hid (XB.out.grown g (fun e => by have := Option.some.inj e; omega))
             have YB := hid (YB.out.grown g (fun e => by have := Option.some.inj e; omega))
             have HB := hid (HB.out.trans (grown_below g (by omega) (by omega)))
             clear kCB2
             have kCB2 : v43.cell? ⟨w.heap.size, 2, none⟩ = some (.slice (some ⟨b2, of2, none⟩) cc.pc.length cpc) := (BoxAt.cell CB.out 2).trans (by show some qc.v2.val = _; rw [HCv.out])
             clear kFB0
             have kFB0 : v43.cell? ⟨v4.heap.size, 0, none⟩ = some (.int .i64 f.pr) := (BoxAt.cell FB.out 0).trans rfl
             clear kFB1
             have kFB1 : v43.cell? ⟨v4.heap.size, 1, none⟩ = some (.int .i64 f.pe) := (BoxAt.cell FB.out 1).trans rfl
             clear kFB2
             have kFB2 : v43.cell? ⟨v4.heap.size, 2, none⟩ = some (.int .i64 f.li) := (BoxAt.cell FB.out 2).trans rfl
             clear kFB3
             have kFB3 : v43.cell? ⟨v4.heap.size, 3, none⟩ = some (.int .i64 f.en) := (BoxAt.cell FB.out 3).trans rfl
             clear b g z hfl FL36)
          | (have hfl := FL37.out
             refine wpList_store_whole rfl 58 _ _ rfl rfl v41.heap.size rfl (Px.cells y) rfl _ _ YB.out rfl Try.infoPx (Px.one _) ?_
             intro v44 b g z
             have hsv44 : v43.heap.size ≤ v44.heap.size := by omega
             have YB := hid (show BoxAt v44 v41.heap.size 58 (Px.cells y).toArray from b)
             have CB := hid (CB.out.grown g (fun e => by have := Option.some.inj e; omega))
             have PB := hid (PB.out.grown g (fun e => by have := Option.some.inj e; omega))
             have RB := hid (RB.out.grown g (fun e => by have := Option.some.inj e; omega))
             have FB := hid (FB.out.grown g (fun e => by have := Option.some.inj e; omega))
             have XB := hid (XB.out.grown g (fun e => by have := Option.some.inj e; omega))
             have QB := hid (QB.out.grown g (fun e => by have := Option.some.inj e; omega))
             have HB := hid (HB.out.trans (grown_below g (by omega) (by omega)))
             clear kCB2
             have kCB2 : v44.cell? ⟨w.heap.size, 2, none⟩ = some (.slice (some ⟨b2, of2, none⟩) cc.pc.length cpc) := (BoxAt.cell CB.out 2).trans (by show some qc.v2.val = _; rw [HCv.out])
             clear kFB0
             have kFB0 : v44.cell? ⟨v4.heap.size, 0, none⟩ = some (.int .i64 f.pr) := (BoxAt.cell FB.out 0).trans rfl
             clear kFB1
             have kFB1 : v44.cell? ⟨v4.heap.size, 1, none⟩ = some (.int .i64 f.pe) := (BoxAt.cell FB.out 1).trans rfl
             clear kFB2
             have kFB2 : v44.cell? ⟨v4.heap.size, 2, none⟩ = some (.int .i64 f.li) := (BoxAt.cell FB.out 2).trans rfl
             clear kFB3
             have kFB3 : v44.cell? ⟨v4.heap.size, 3, none⟩ = some (.int .i64 f.en) := (BoxAt.cell FB.out 3).trans rfl
             clear b g z hfl FL37)
          | (refine wpList_load_box rfl 39 _ rfl v40.heap.size rfl _ _ QB.out _ Try.underlying39 Try.infoPa ?_)
          | (refine wpList_load_box rfl 58 _ rfl v41.heap.size rfl _ _ YB.out _ Try.underlying58 Try.infoPx ?_)
          | fail)
        refine (rwith_s (n := w0.heap.size) (c := { c with nx := wrap64 (c.nx + 1) }) k (y) (by rw [HQ.out]; exact PaS.nx _ (PaS.from HA0.out (H0.out.trans (HB.out.mono h0s)))) (by omega) HSm.out.pr HK.out).mono ?_
        rintro e v45 ⟨q', rfl, ho, hb⟩
        have CB := hid (CB.out.belowAll hb)
        have PB := hid (PB.out.belowAll hb)
        have RB := hid (RB.out.belowAll hb)
        have FB := hid (FB.out.belowAll hb)
        have XB := hid (XB.out.belowAll hb)
        have QB := hid (QB.out.belowAll hb)
        have YB := hid (YB.out.belowAll hb)
        have HB := hid (HB.out.trans (hb.mono HB.out.size))
        have hsv45 : v44.heap.size ≤ v45.heap.size := hb.size
        rw [HY.out] at ho
        have HO := hid ho
        clear ho
        clear kCB2
        have kCB2 : v45.cell? ⟨w.heap.size, 2, none⟩ = some (.slice (some ⟨b2, of2, none⟩) cc.pc.length cpc) := (BoxAt.cell CB.out 2).trans (by show some qc.v2.val = _; rw [HCv.out])
        clear kFB0
        have kFB0 : v45.cell? ⟨v4.heap.size, 0, none⟩ = some (.int .i64 f.pr) := (BoxAt.cell FB.out 0).trans rfl
        clear kFB1
        have kFB1 : v45.cell? ⟨v4.heap.size, 1, none⟩ = some (.int .i64 f.pe) := (BoxAt.cell FB.out 1).trans rfl
        clear kFB2
        have kFB2 : v45.cell? ⟨v4.heap.size, 2, none⟩ = some (.int .i64 f.li) := (BoxAt.cell FB.out 2).trans rfl
        clear kFB3
        have kFB3 : v45.cell? ⟨v4.heap.size, 3, none⟩ = some (.int .i64 f.en) := (BoxAt.cell FB.out 3).trans rfl
        clear hb
        have FL38 := hid trivial
        go_wp2_with (first
          | (have hfl := FL38.out
             refine wpList_store_whole rfl 39 _ _ rfl rfl v2.heap.size rfl (PaV.cells q') rfl _ _ RB.out rfl Try.infoPa (PaV.one _) ?_
             intro v46 b g z
             have hsv46 : v45.heap.size ≤ v46.heap.size := by omega
             have HO := hid (HO.out.put (by omega) (by omega) g RB.out b)
             have RB := hid (show BoxAt v46 v2.heap.size 39 (PaV.cells q').toArray from b)
             have CB := hid (CB.out.grown g (fun e => by have := Option.some.inj e; omega))
             have PB := hid (PB.out.grown g (fun e => by have := Option.some.inj e; omega))
             have FB := hid (FB.out.grown g (fun e => by have := Option.some.inj e; omega))
             have XB := hid (XB.out.grown g (fun e => by have := Option.some.inj e; omega))
             have QB := hid (QB.out.grown g (fun e => by have := Option.some.inj e; omega))
             have YB := hid (YB.out.grown g (fun e => by have := Option.some.inj e; omega))
             have HB := hid (HB.out.trans (grown_below g (by omega) (by omega)))
             clear kCB2
             have kCB2 : v46.cell? ⟨w.heap.size, 2, none⟩ = some (.slice (some ⟨b2, of2, none⟩) cc.pc.length cpc) := (BoxAt.cell CB.out 2).trans (by show some qc.v2.val = _; rw [HCv.out])
             clear kFB0
             have kFB0 : v46.cell? ⟨v4.heap.size, 0, none⟩ = some (.int .i64 f.pr) := (BoxAt.cell FB.out 0).trans rfl
             clear kFB1
             have kFB1 : v46.cell? ⟨v4.heap.size, 1, none⟩ = some (.int .i64 f.pe) := (BoxAt.cell FB.out 1).trans rfl
             clear kFB2
             have kFB2 : v46.cell? ⟨v4.heap.size, 2, none⟩ = some (.int .i64 f.li) := (BoxAt.cell FB.out 2).trans rfl
             clear kFB3
             have kFB3 : v46.cell? ⟨v4.heap.size, 3, none⟩ = some (.int .i64 f.en) := (BoxAt.cell FB.out 3).trans rfl
             clear b g z hfl FL38)
          | fail)
        refine bodyPost_ret (results_box_tmp rfl _ _ (v2.heap.size) 39 _ (0, 0) _ rfl RB.out Try.underlying39 rfl Try.infoPa) rfl ?_
        rw [show startP cc c (k : Int) n = ({ c with pr := c.pr.set k { x1 with si := c.nx }, nx := wrap64 (c.nx + 1) }, 0) from by rw [start_in HCf.out, HF.out]; exact deed_does_q HK.out _ (by rw [HR.out]; exact HD.out)]
        exact ⟨q', rfl, HO.out, HB.out⟩
      · obtain ⟨x1, hx1⟩ : ∃ x : Px, { d with st := 1, pc := f.en } = x := ⟨_, rfl⟩
        have HX1 := hid hx1
        clear hx1
        have HD := hid (show startD f n r = ⟨x1, true, 0⟩ from by unfold startD; rw [if_pos HSt.out, if_neg hli, if_neg hpe, ← HX1.out, ← HDm.out]; try rfl)
        have tli : decide (0 < f.li) = false := decide_eq_false hli
        have tpe : decide (0 < f.pe) = false := decide_eq_false hpe
        have FL39 := hid trivial
        have FL40 := hid trivial
        have FL41 := hid trivial
        have FL42 := hid trivial
        go_wp2_with (first
          | (have hfl := FL39.out
             refine wpList_new rfl 58 rfl _ Try.zeroPx ?_
             intro v47 b h z
             have XB := hid (show BoxAt v47 v9.heap.size 58 (Px.cells Px.zero).toArray from b)
             have CB := hid (CB.out.belowAll h)
             have PB := hid (PB.out.belowAll h)
             have RB := hid (RB.out.belowAll h)
             have FB := hid (FB.out.belowAll h)
             have HB := hid (HB.out.trans (h.mono HB.out.size))
             have hsv47 : v9.heap.size + 1 ≤ v47.heap.size := by omega
             clear kCB2
             have kCB2 : v47.cell? ⟨w.heap.size, 2, none⟩ = some (.slice (some ⟨b2, of2, none⟩) cc.pc.length cpc) := (BoxAt.cell CB.out 2).trans (by show some qc.v2.val = _; rw [HCv.out])
             clear kFB0
             have kFB0 : v47.cell? ⟨v4.heap.size, 0, none⟩ = some (.int .i64 f.pr) := (BoxAt.cell FB.out 0).trans rfl
             clear kFB1
             have kFB1 : v47.cell? ⟨v4.heap.size, 1, none⟩ = some (.int .i64 f.pe) := (BoxAt.cell FB.out 1).trans rfl
             clear kFB2
             have kFB2 : v47.cell? ⟨v4.heap.size, 2, none⟩ = some (.int .i64 f.li) := (BoxAt.cell FB.out 2).trans rfl
             clear kFB3
             have kFB3 : v47.cell? ⟨v4.heap.size, 3, none⟩ = some (.int .i64 f.en) := (BoxAt.cell FB.out 3).trans rfl
             clear b h z hfl FL39)
          | (have hfl := FL40.out
             refine wpList_store_whole rfl 58 _ _ rfl rfl v9.heap.size rfl (Px.cells d) rfl _ _ XB.out rfl Try.infoPx (Px.one _) ?_
             intro v48 b g z
             have hsv48 : v47.heap.size ≤ v48.heap.size := by omega
             have XB := hid (show BoxAt v48 v9.heap.size 58 (Px.cells d).toArray from b)
             have CB := hid (CB.out.grown g (fun e => by have := Option.some.inj e; omega))
             have PB := hid (PB.out.grown g (fun e => by have := Option.some.inj e; omega))
             have RB := hid (RB.out.grown g (fun e => by have := Option.some.inj e; omega))
             have FB := hid (FB.out.grown g (fun e => by have := Option.some.inj e; omega))
             have HB := hid (HB.out.trans (grown_below g (by omega) (by omega)))
             clear kCB2
             have kCB2 : v48.cell? ⟨w.heap.size, 2, none⟩ = some (.slice (some ⟨b2, of2, none⟩) cc.pc.length cpc) := (BoxAt.cell CB.out 2).trans (by show some qc.v2.val = _; rw [HCv.out])
             clear kFB0
             have kFB0 : v48.cell? ⟨v4.heap.size, 0, none⟩ = some (.int .i64 f.pr) := (BoxAt.cell FB.out 0).trans rfl
             clear kFB1
             have kFB1 : v48.cell? ⟨v4.heap.size, 1, none⟩ = some (.int .i64 f.pe) := (BoxAt.cell FB.out 1).trans rfl
             clear kFB2
             have kFB2 : v48.cell? ⟨v4.heap.size, 2, none⟩ = some (.int .i64 f.li) := (BoxAt.cell FB.out 2).trans rfl
             clear kFB3
             have kFB3 : v48.cell? ⟨v4.heap.size, 3, none⟩ = some (.int .i64 f.en) := (BoxAt.cell FB.out 3).trans rfl
             clear b g z hfl FL40)
          | (have hfl := FL41.out
             refine wpList_store_box rfl 3 _ _ rfl rfl v9.heap.size 0 (.int .i64 1) rfl rfl rfl rfl (by kernel_rfl) _ _ XB.out (by simp [Px.cells]) ?_
             intro v49 b g z
             have hsv49 : v48.heap.size ≤ v49.heap.size := by omega
             have XB := hid (show BoxAt v49 v9.heap.size 58 (Px.cells { d with st := 1 }).toArray by simpa [Px.cells] using b)
             have CB := hid (CB.out.grown g (fun e => by have := Option.some.inj e; omega))
             have PB := hid (PB.out.grown g (fun e => by have := Option.some.inj e; omega))
             have RB := hid (RB.out.grown g (fun e => by have := Option.some.inj e; omega))
             have FB := hid (FB.out.grown g (fun e => by have := Option.some.inj e; omega))
             have HB := hid (HB.out.trans (grown_below g (by omega) (by omega)))
             clear kCB2
             have kCB2 : v49.cell? ⟨w.heap.size, 2, none⟩ = some (.slice (some ⟨b2, of2, none⟩) cc.pc.length cpc) := (BoxAt.cell CB.out 2).trans (by show some qc.v2.val = _; rw [HCv.out])
             clear kFB0
             have kFB0 : v49.cell? ⟨v4.heap.size, 0, none⟩ = some (.int .i64 f.pr) := (BoxAt.cell FB.out 0).trans rfl
             clear kFB1
             have kFB1 : v49.cell? ⟨v4.heap.size, 1, none⟩ = some (.int .i64 f.pe) := (BoxAt.cell FB.out 1).trans rfl
             clear kFB2
             have kFB2 : v49.cell? ⟨v4.heap.size, 2, none⟩ = some (.int .i64 f.li) := (BoxAt.cell FB.out 2).trans rfl
             clear kFB3
             have kFB3 : v49.cell? ⟨v4.heap.size, 3, none⟩ = some (.int .i64 f.en) := (BoxAt.cell FB.out 3).trans rfl
             clear b g z hfl FL41)
          | (have hfl := FL42.out
             refine wpList_store_box rfl 3 _ _ rfl rfl v9.heap.size 3 (.int .i64 f.en) rfl rfl rfl rfl (by kernel_rfl) _ _ XB.out (by simp [Px.cells]) ?_
             intro v50 b g z
             have hsv50 : v49.heap.size ≤ v50.heap.size := by omega
             have XB := hid (show BoxAt v50 v9.heap.size 58 (Px.cells x1).toArray by rw [← HX1.out]; simpa [Px.cells] using b)
             have CB := hid (CB.out.grown g (fun e => by have := Option.some.inj e; omega))
             have PB := hid (PB.out.grown g (fun e => by have := Option.some.inj e; omega))
             have RB := hid (RB.out.grown g (fun e => by have := Option.some.inj e; omega))
             have FB := hid (FB.out.grown g (fun e => by have := Option.some.inj e; omega))
             have HB := hid (HB.out.trans (grown_below g (by omega) (by omega)))
             clear kCB2
             have kCB2 : v50.cell? ⟨w.heap.size, 2, none⟩ = some (.slice (some ⟨b2, of2, none⟩) cc.pc.length cpc) := (BoxAt.cell CB.out 2).trans (by show some qc.v2.val = _; rw [HCv.out])
             clear kFB0
             have kFB0 : v50.cell? ⟨v4.heap.size, 0, none⟩ = some (.int .i64 f.pr) := (BoxAt.cell FB.out 0).trans rfl
             clear kFB1
             have kFB1 : v50.cell? ⟨v4.heap.size, 1, none⟩ = some (.int .i64 f.pe) := (BoxAt.cell FB.out 1).trans rfl
             clear kFB2
             have kFB2 : v50.cell? ⟨v4.heap.size, 2, none⟩ = some (.int .i64 f.li) := (BoxAt.cell FB.out 2).trans rfl
             clear kFB3
             have kFB3 : v50.cell? ⟨v4.heap.size, 3, none⟩ = some (.int .i64 f.en) := (BoxAt.cell FB.out 3).trans rfl
             clear b g z hfl FL42)
          | (refine wpList_load_box rfl 39 _ rfl v1.heap.size rfl _ _ PB.out _ Try.underlying39 Try.infoPa ?_)
          | (refine wpList_load_box rfl 58 _ rfl v9.heap.size rfl _ _ XB.out _ Try.underlying58 Try.infoPx ?_)
          | fail)
        refine (rqueued_s (x1) HA.out.nx).mono ?_
        rintro e v51 ⟨q2, y, rfl, hy, hq, hb⟩
        have CB := hid (CB.out.belowAll hb)
        have PB := hid (PB.out.belowAll hb)
        have RB := hid (RB.out.belowAll hb)
        have FB := hid (FB.out.belowAll hb)
        have XB := hid (XB.out.belowAll hb)
        have HB := hid (HB.out.trans (hb.mono HB.out.size))
        have hsv51 : v50.heap.size ≤ v51.heap.size := hb.size
        have HQ := hid hq
        have HY := hid hy
        clear hy hq
        clear kCB2
        have kCB2 : v51.cell? ⟨w.heap.size, 2, none⟩ = some (.slice (some ⟨b2, of2, none⟩) cc.pc.length cpc) := (BoxAt.cell CB.out 2).trans (by show some qc.v2.val = _; rw [HCv.out])
        clear kFB0
        have kFB0 : v51.cell? ⟨v4.heap.size, 0, none⟩ = some (.int .i64 f.pr) := (BoxAt.cell FB.out 0).trans rfl
        clear kFB1
        have kFB1 : v51.cell? ⟨v4.heap.size, 1, none⟩ = some (.int .i64 f.pe) := (BoxAt.cell FB.out 1).trans rfl
        clear kFB2
        have kFB2 : v51.cell? ⟨v4.heap.size, 2, none⟩ = some (.int .i64 f.li) := (BoxAt.cell FB.out 2).trans rfl
        clear kFB3
        have kFB3 : v51.cell? ⟨v4.heap.size, 3, none⟩ = some (.int .i64 f.en) := (BoxAt.cell FB.out 3).trans rfl
        clear hb
        have FL43 := hid trivial
        have FL44 := hid trivial
        have FL45 := hid trivial
        have FL46 := hid trivial
        go_wp2_with (first
          | (have hfl := FL43.out
             refine wpList_new rfl 39 rfl _ Try.zeroPa ?_
             intro v52 b h z
             have QB := hid (show BoxAt v52 v51.heap.size 39 (PaV.cells PaV.zero).toArray from b)
             have CB := hid (CB.out.belowAll h)
             have PB := hid (PB.out.belowAll h)
             have RB := hid (RB.out.belowAll h)
             have FB := hid (FB.out.belowAll h)
             have XB := hid (XB.out.belowAll h)
             have HB := hid (HB.out.trans (h.mono HB.out.size))
             have hsv52 : v51.heap.size + 1 ≤ v52.heap.size := by omega
             clear kCB2
             have kCB2 : v52.cell? ⟨w.heap.size, 2, none⟩ = some (.slice (some ⟨b2, of2, none⟩) cc.pc.length cpc) := (BoxAt.cell CB.out 2).trans (by show some qc.v2.val = _; rw [HCv.out])
             clear kFB0
             have kFB0 : v52.cell? ⟨v4.heap.size, 0, none⟩ = some (.int .i64 f.pr) := (BoxAt.cell FB.out 0).trans rfl
             clear kFB1
             have kFB1 : v52.cell? ⟨v4.heap.size, 1, none⟩ = some (.int .i64 f.pe) := (BoxAt.cell FB.out 1).trans rfl
             clear kFB2
             have kFB2 : v52.cell? ⟨v4.heap.size, 2, none⟩ = some (.int .i64 f.li) := (BoxAt.cell FB.out 2).trans rfl
             clear kFB3
             have kFB3 : v52.cell? ⟨v4.heap.size, 3, none⟩ = some (.int .i64 f.en) := (BoxAt.cell FB.out 3).trans rfl
             clear b h z hfl FL43)
          | (have hfl := FL44.out
             refine wpList_new rfl 58 rfl _ Try.zeroPx ?_
             intro v53 b h z
             have YB := hid (show BoxAt v53 v52.heap.size 58 (Px.cells Px.zero).toArray from b)
             have CB := hid (CB.out.belowAll h)
             have PB := hid (PB.out.belowAll h)
             have RB := hid (RB.out.belowAll h)
             have FB := hid (FB.out.belowAll h)
             have XB := hid (XB.out.belowAll h)
             have QB := hid (QB.out.belowAll h)
             have HB := hid (HB.out.trans (h.mono HB.out.size))
             have hsv53 : v52.heap.size + 1 ≤ v53.heap.size := by omega
             clear kCB2
             have kCB2 : v53.cell? ⟨w.heap.size, 2, none⟩ = some (.slice (some ⟨b2, of2, none⟩) cc.pc.length cpc) := (BoxAt.cell CB.out 2).trans (by show some qc.v2.val = _; rw [HCv.out])
             clear kFB0
             have kFB0 : v53.cell? ⟨v4.heap.size, 0, none⟩ = some (.int .i64 f.pr) := (BoxAt.cell FB.out 0).trans rfl
             clear kFB1
             have kFB1 : v53.cell? ⟨v4.heap.size, 1, none⟩ = some (.int .i64 f.pe) := (BoxAt.cell FB.out 1).trans rfl
             clear kFB2
             have kFB2 : v53.cell? ⟨v4.heap.size, 2, none⟩ = some (.int .i64 f.li) := (BoxAt.cell FB.out 2).trans rfl
             clear kFB3
             have kFB3 : v53.cell? ⟨v4.heap.size, 3, none⟩ = some (.int .i64 f.en) := (BoxAt.cell FB.out 3).trans rfl
             clear b h z hfl FL44)
          | (have hfl := FL45.out
             refine wpList_store_whole rfl 39 _ _ rfl rfl v51.heap.size rfl (PaV.cells q2) rfl _ _ QB.out rfl Try.infoPa (PaV.one _) ?_
             intro v54 b g z
             have hsv54 : v53.heap.size ≤ v54.heap.size := by omega
             have QB := hid (show BoxAt v54 v51.heap.size 39 (PaV.cells q2).toArray from b)
             have CB := hid (CB.out.grown g (fun e => by have := Option.some.inj e; omega))
             have PB := hid (PB.out.grown g (fun e => by have := Option.some.inj e; omega))
             have RB := hid (RB.out.grown g (fun e => by have := Option.some.inj e; omega))
             have FB := hid (FB.out.grown g (fun e => by have := Option.some.inj e; omega))
             have XB := hid (XB.out.grown g (fun e => by have := Option.some.inj e; omega))
             have YB := hid (YB.out.grown g (fun e => by have := Option.some.inj e; omega))
             have HB := hid (HB.out.trans (grown_below g (by omega) (by omega)))
             clear kCB2
             have kCB2 : v54.cell? ⟨w.heap.size, 2, none⟩ = some (.slice (some ⟨b2, of2, none⟩) cc.pc.length cpc) := (BoxAt.cell CB.out 2).trans (by show some qc.v2.val = _; rw [HCv.out])
             clear kFB0
             have kFB0 : v54.cell? ⟨v4.heap.size, 0, none⟩ = some (.int .i64 f.pr) := (BoxAt.cell FB.out 0).trans rfl
             clear kFB1
             have kFB1 : v54.cell? ⟨v4.heap.size, 1, none⟩ = some (.int .i64 f.pe) := (BoxAt.cell FB.out 1).trans rfl
             clear kFB2
             have kFB2 : v54.cell? ⟨v4.heap.size, 2, none⟩ = some (.int .i64 f.li) := (BoxAt.cell FB.out 2).trans rfl
             clear kFB3
             have kFB3 : v54.cell? ⟨v4.heap.size, 3, none⟩ = some (.int .i64 f.en) := (BoxAt.cell FB.out 3).trans rfl
             clear b g z hfl FL45)
          | (have hfl := FL46.out
             refine wpList_store_whole rfl 58 _ _ rfl rfl v52.heap.size rfl (Px.cells y) rfl _ _ YB.out rfl Try.infoPx (Px.one _) ?_
             intro v55 b g z
             have hsv55 : v54.heap.size ≤ v55.heap.size := by omega
             have YB := hid (show BoxAt v55 v52.heap.size 58 (Px.cells y).toArray from b)
             have CB := hid (CB.out.grown g (fun e => by have := Option.some.inj e; omega))
             have PB := hid (PB.out.grown g (fun e => by have := Option.some.inj e; omega))
             have RB := hid (RB.out.grown g (fun e => by have := Option.some.inj e; omega))
             have FB := hid (FB.out.grown g (fun e => by have := Option.some.inj e; omega))
             have XB := hid (XB.out.grown g (fun e => by have := Option.some.inj e; omega))
             have QB := hid (QB.out.grown g (fun e => by have := Option.some.inj e; omega))
             have HB := hid (HB.out.trans (grown_below g (by omega) (by omega)))
             clear kCB2
             have kCB2 : v55.cell? ⟨w.heap.size, 2, none⟩ = some (.slice (some ⟨b2, of2, none⟩) cc.pc.length cpc) := (BoxAt.cell CB.out 2).trans (by show some qc.v2.val = _; rw [HCv.out])
             clear kFB0
             have kFB0 : v55.cell? ⟨v4.heap.size, 0, none⟩ = some (.int .i64 f.pr) := (BoxAt.cell FB.out 0).trans rfl
             clear kFB1
             have kFB1 : v55.cell? ⟨v4.heap.size, 1, none⟩ = some (.int .i64 f.pe) := (BoxAt.cell FB.out 1).trans rfl
             clear kFB2
             have kFB2 : v55.cell? ⟨v4.heap.size, 2, none⟩ = some (.int .i64 f.li) := (BoxAt.cell FB.out 2).trans rfl
             clear kFB3
             have kFB3 : v55.cell? ⟨v4.heap.size, 3, none⟩ = some (.int .i64 f.en) := (BoxAt.cell FB.out 3).trans rfl
             clear b g z hfl FL46)
          | (refine wpList_load_box rfl 39 _ rfl v51.heap.size rfl _ _ QB.out _ Try.underlying39 Try.infoPa ?_)
          | (refine wpList_load_box rfl 58 _ rfl v52.heap.size rfl _ _ YB.out _ Try.underlying58 Try.infoPx ?_)
          | fail)
        refine (rwith_s (n := w0.heap.size) (c := { c with nx := wrap64 (c.nx + 1) }) k (y) (by rw [HQ.out]; exact PaS.nx _ (PaS.from HA0.out (H0.out.trans (HB.out.mono h0s)))) (by omega) HSm.out.pr HK.out).mono ?_
        rintro e v56 ⟨q', rfl, ho, hb⟩
        have CB := hid (CB.out.belowAll hb)
        have PB := hid (PB.out.belowAll hb)
        have RB := hid (RB.out.belowAll hb)
        have FB := hid (FB.out.belowAll hb)
        have XB := hid (XB.out.belowAll hb)
        have QB := hid (QB.out.belowAll hb)
        have YB := hid (YB.out.belowAll hb)
        have HB := hid (HB.out.trans (hb.mono HB.out.size))
        have hsv56 : v55.heap.size ≤ v56.heap.size := hb.size
        rw [HY.out] at ho
        have HO := hid ho
        clear ho
        clear kCB2
        have kCB2 : v56.cell? ⟨w.heap.size, 2, none⟩ = some (.slice (some ⟨b2, of2, none⟩) cc.pc.length cpc) := (BoxAt.cell CB.out 2).trans (by show some qc.v2.val = _; rw [HCv.out])
        clear kFB0
        have kFB0 : v56.cell? ⟨v4.heap.size, 0, none⟩ = some (.int .i64 f.pr) := (BoxAt.cell FB.out 0).trans rfl
        clear kFB1
        have kFB1 : v56.cell? ⟨v4.heap.size, 1, none⟩ = some (.int .i64 f.pe) := (BoxAt.cell FB.out 1).trans rfl
        clear kFB2
        have kFB2 : v56.cell? ⟨v4.heap.size, 2, none⟩ = some (.int .i64 f.li) := (BoxAt.cell FB.out 2).trans rfl
        clear kFB3
        have kFB3 : v56.cell? ⟨v4.heap.size, 3, none⟩ = some (.int .i64 f.en) := (BoxAt.cell FB.out 3).trans rfl
        clear hb
        have FL47 := hid trivial
        go_wp2_with (first
          | (have hfl := FL47.out
             refine wpList_store_whole rfl 39 _ _ rfl rfl v2.heap.size rfl (PaV.cells q') rfl _ _ RB.out rfl Try.infoPa (PaV.one _) ?_
             intro v57 b g z
             have hsv57 : v56.heap.size ≤ v57.heap.size := by omega
             have HO := hid (HO.out.put (by omega) (by omega) g RB.out b)
             have RB := hid (show BoxAt v57 v2.heap.size 39 (PaV.cells q').toArray from b)
             have CB := hid (CB.out.grown g (fun e => by have := Option.some.inj e; omega))
             have PB := hid (PB.out.grown g (fun e => by have := Option.some.inj e; omega))
             have FB := hid (FB.out.grown g (fun e => by have := Option.some.inj e; omega))
             have XB := hid (XB.out.grown g (fun e => by have := Option.some.inj e; omega))
             have QB := hid (QB.out.grown g (fun e => by have := Option.some.inj e; omega))
             have YB := hid (YB.out.grown g (fun e => by have := Option.some.inj e; omega))
             have HB := hid (HB.out.trans (grown_below g (by omega) (by omega)))
             clear kCB2
             have kCB2 : v57.cell? ⟨w.heap.size, 2, none⟩ = some (.slice (some ⟨b2, of2, none⟩) cc.pc.length cpc) := (BoxAt.cell CB.out 2).trans (by show some qc.v2.val = _; rw [HCv.out])
             clear kFB0
             have kFB0 : v57.cell? ⟨v4.heap.size, 0, none⟩ = some (.int .i64 f.pr) := (BoxAt.cell FB.out 0).trans rfl
             clear kFB1
             have kFB1 : v57.cell? ⟨v4.heap.size, 1, none⟩ = some (.int .i64 f.pe) := (BoxAt.cell FB.out 1).trans rfl
             clear kFB2
             have kFB2 : v57.cell? ⟨v4.heap.size, 2, none⟩ = some (.int .i64 f.li) := (BoxAt.cell FB.out 2).trans rfl
             clear kFB3
             have kFB3 : v57.cell? ⟨v4.heap.size, 3, none⟩ = some (.int .i64 f.en) := (BoxAt.cell FB.out 3).trans rfl
             clear b g z hfl FL47)
          | fail)
        refine bodyPost_ret (results_box_tmp rfl _ _ (v2.heap.size) 39 _ (0, 0) _ rfl RB.out Try.underlying39 rfl Try.infoPa) rfl ?_
        rw [show startP cc c (k : Int) n = ({ c with pr := c.pr.set k { x1 with si := c.nx }, nx := wrap64 (c.nx + 1) }, 0) from by rw [start_in HCf.out, HF.out]; exact deed_does_q HK.out _ (by rw [HR.out]; exact HD.out)]
        exact ⟨q', rfl, HO.out, HB.out⟩
  · have HD := hid (show startD f n r = ⟨r, false, 1⟩ from by unfold startD; rw [if_neg hst])
    have thst : (r.st == 0) = false := by simpa using hst
    have thsn : (r.st != 0) = true := by simpa using hst
    have FL48 := hid trivial
    go_wp2_with (first
      | (refine wpList_load_box rfl 39 _ rfl v1.heap.size rfl _ _ PB.out _ Try.underlying39 Try.infoPa ?_)
      | (have hfl := FL48.out
         refine wpList_store_whole rfl 39 _ _ rfl rfl v2.heap.size rfl (PaV.cells q) rfl _ _ RB.out rfl Try.infoPa (PaV.one _) ?_
         intro v58 b g z
         have hsv58 : v4.heap.size ≤ v58.heap.size := by omega
         have RB := hid (show BoxAt v58 v2.heap.size 39 (PaV.cells q).toArray from b)
         have CB := hid (CB.out.grown g (fun e => by have := Option.some.inj e; omega))
         have PB := hid (PB.out.grown g (fun e => by have := Option.some.inj e; omega))
         have HB := hid (HB.out.trans (grown_below g (by omega) (by omega)))
         clear kCB2
         have kCB2 : v58.cell? ⟨w.heap.size, 2, none⟩ = some (.slice (some ⟨b2, of2, none⟩) cc.pc.length cpc) := (BoxAt.cell CB.out 2).trans (by show some qc.v2.val = _; rw [HCv.out])
         clear kPB4
         have kPB4 : v58.cell? ⟨v1.heap.size, 4, none⟩ = some (.slice (some ⟨b1, off, none⟩) c.pr.length cpp) := (BoxAt.cell PB.out 4).trans (by show some q.pr.val = _; rw [HPv.out])
         clear b g z hfl FL48)
      | fail)
    refine bodyPost_ret (results_box_tmp rfl _ _ (v2.heap.size) 39 _ (0, 0) _ rfl RB.out Try.underlying39 rfl Try.infoPa) rfl ?_
    rw [show startP cc c (k : Int) n = (c, 1) from by rw [start_in HCf.out, HF.out]; exact deed_idle HK.out _ (by rw [HR.out]; exact HD.out)]
    exact ⟨q, rfl, PaS.from HA0.out (H0.out.trans (HB.out.mono h0s)), HB.out⟩

set_option maxRecDepth 100000 in
set_option maxHeartbeats 6400000 in
theorem rsusp_any {qc : Pv} {cc : Pt} {q : PaV} {c : Pa} {w0 w : World} {i : Int} (hc : PtAt w0 qc cc) (ha : PaAt w0 q c) (h0 : Below w0.heap.size w0 w) (hsm : c.small) :
    Calls Try.prog 32 #[qc.val, q.val, .int .i64 i] w fun e w' => ∃ q', e = .returned (.tuple #[PaV.val q', .int .i64 (suspP cc c i).2]) ∧ PaS w0.heap.size w' q' (suspP cc c i).1 ∧ Below w.heap.size w w' := by
  have HA0 := hid ha
  have HA := hid (ha.below h0)
  have H0 := hid h0
  have h0s : w0.heap.size ≤ w.heap.size := h0.size
  have HSm := hid hsm
  have HB := hid (Below.refl w.heap.size w)
  obtain ⟨ap, cpp, hpv, hp1, hp2, hpcell⟩ := HA.out.pr.form
  have hmax : cpp ≤ 9223372036854775807 := hp2
  have HPv := hid hpv
  have HPc := hid hpcell
  clear ha h0 hsm hpv hp2 hpcell
  obtain ⟨ac, cpc, hcv, hc1, hc2, hccell⟩ := (hc.below H0.out).pc.form
  have hmaxc : cpc ≤ 9223372036854775807 := hc2
  have HCv := hid hcv
  have HCc := hid hccell
  clear hc hcv hc2 hccell
  go_enter Try.func32, Try.ntmps32
  have FL1 := hid trivial
  have FL2 := hid trivial
  have FL3 := hid trivial
  go_wp2_with (first
    | (have hfl := FL1.out
       refine wpList_box rfl 28 (.tmp 0) rfl (Pv.cells qc).toArray rfl ?_
       intro v1 b h z
       have CB := hid (show BoxAt v1 w.heap.size 28 (Pv.cells qc).toArray from b)
       have HB := hid (HB.out.trans (h.mono HB.out.size))
       have hsv1 : w.heap.size + 1 ≤ v1.heap.size := by omega
       clear b h z hfl FL1)
    | (have hfl := FL2.out
       refine wpList_box rfl 39 (.tmp 1) rfl (PaV.cells q).toArray rfl ?_
       intro v2 b h z
       have PB := hid (show BoxAt v2 v1.heap.size 39 (PaV.cells q).toArray from b)
       have CB := hid (CB.out.belowAll h)
       have HB := hid (HB.out.trans (h.mono HB.out.size))
       have hsv2 : v1.heap.size + 1 ≤ v2.heap.size := by omega
       clear b h z hfl FL2)
    | (have hfl := FL3.out
       refine wpList_new rfl 39 rfl _ Try.zeroPa ?_
       intro v3 b h z
       have RB := hid (show BoxAt v3 v2.heap.size 39 (PaV.cells PaV.zero).toArray from b)
       have CB := hid (CB.out.belowAll h)
       have PB := hid (PB.out.belowAll h)
       have HB := hid (HB.out.trans (h.mono HB.out.size))
       have hsv3 : v2.heap.size + 1 ≤ v3.heap.size := by omega
       have kCB2 : v3.cell? ⟨w.heap.size, 2, none⟩ = some (.slice ac cc.pc.length cpc) := (BoxAt.cell CB.out 2).trans (by show some qc.v2.val = _; rw [HCv.out])
       clear b h z hfl FL3)
    | (refine wpList_load_box rfl 39 _ rfl v1.heap.size rfl _ _ PB.out _ Try.underlying39 Try.infoPa ?_)
    | fail)
  refine (rthere_any i (HA.out.below HB.out)).mono ?_
  rintro e v4 ⟨rfl, hb⟩
  have CB := hid (CB.out.belowAll hb)
  have PB := hid (PB.out.belowAll hb)
  have RB := hid (RB.out.belowAll hb)
  have HB := hid (HB.out.trans (hb.mono HB.out.size))
  have hsv4 : v3.heap.size ≤ v4.heap.size := hb.size
  clear kCB2
  have kCB2 : v4.cell? ⟨w.heap.size, 2, none⟩ = some (.slice ac cc.pc.length cpc) := (BoxAt.cell CB.out 2).trans (by show some qc.v2.val = _; rw [HCv.out])
  clear hb
  by_cases hin : 0 ≤ i ∧ i < c.pr.length
  rotate_left
  · have HIn := hid hin
    rw [decide_eq_false hin]
    clear hin
    have FL4 := hid trivial
    go_wp2_with (first
      | (refine wpList_load_box rfl 39 _ rfl v1.heap.size rfl _ _ PB.out _ Try.underlying39 Try.infoPa ?_)
      | (have hfl := FL4.out
         refine wpList_store_whole rfl 39 _ _ rfl rfl v2.heap.size rfl (PaV.cells q) rfl _ _ RB.out rfl Try.infoPa (PaV.one _) ?_
         intro v5 b g z
         have hsv5 : v4.heap.size ≤ v5.heap.size := by omega
         have RB := hid (show BoxAt v5 v2.heap.size 39 (PaV.cells q).toArray from b)
         have CB := hid (CB.out.grown g (fun e => by have := Option.some.inj e; omega))
         have PB := hid (PB.out.grown g (fun e => by have := Option.some.inj e; omega))
         have HB := hid (HB.out.trans (grown_below g (by omega) (by omega)))
         clear kCB2
         have kCB2 : v5.cell? ⟨w.heap.size, 2, none⟩ = some (.slice ac cc.pc.length cpc) := (BoxAt.cell CB.out 2).trans (by show some qc.v2.val = _; rw [HCv.out])
         clear b g z hfl FL4)
      | fail)
    refine bodyPost_ret (results_box_tmp rfl _ _ (v2.heap.size) 39 _ (0, 0) _ rfl RB.out Try.underlying39 rfl Try.infoPa) rfl ?_
    rw [show suspP cc c i = (c, 3) from by unfold suspP; rw [deed_out HIn.out]; split <;> rfl]
    exact ⟨q, rfl, PaS.from HA0.out (H0.out.trans (HB.out.mono h0s)), HB.out⟩
  rw [decide_eq_true hin]
  obtain ⟨k, hki⟩ : ∃ k : Nat, i = (k : Int) := ⟨(i).toNat, by omega⟩
  have hk : k < c.pr.length := by omega
  clear hin
  subst hki
  by_cases hcf : k < cc.pc.length
  rotate_left
  · have tcf : decide (cc.pc.length ≤ k) = true := decide_eq_true (by omega)
    have HCf := hid hcf
    clear hcf
    have FL5 := hid trivial
    go_wp2_with (first
      | (refine wpList_load_box rfl 39 _ rfl v1.heap.size rfl _ _ PB.out _ Try.underlying39 Try.infoPa ?_)
      | (have hfl := FL5.out
         refine wpList_store_whole rfl 39 _ _ rfl rfl v2.heap.size rfl (PaV.cells q) rfl _ _ RB.out rfl Try.infoPa (PaV.one _) ?_
         intro v6 b g z
         have hsv6 : v4.heap.size ≤ v6.heap.size := by omega
         have RB := hid (show BoxAt v6 v2.heap.size 39 (PaV.cells q).toArray from b)
         have CB := hid (CB.out.grown g (fun e => by have := Option.some.inj e; omega))
         have PB := hid (PB.out.grown g (fun e => by have := Option.some.inj e; omega))
         have HB := hid (HB.out.trans (grown_below g (by omega) (by omega)))
         clear kCB2
         have kCB2 : v6.cell? ⟨w.heap.size, 2, none⟩ = some (.slice ac cc.pc.length cpc) := (BoxAt.cell CB.out 2).trans (by show some qc.v2.val = _; rw [HCv.out])
         clear b g z hfl FL5)
      | fail)
    refine bodyPost_ret (results_box_tmp rfl _ _ (v2.heap.size) 39 _ (0, 0) _ rfl RB.out Try.underlying39 rfl Try.infoPa) rfl ?_
    rw [show suspP cc c (k : Int) = (c, 3) from by unfold suspP; rw [if_neg (fun h => HCf.out (by omega))]]
    exact ⟨q, rfl, PaS.from HA0.out (H0.out.trans (HB.out.mono h0s)), HB.out⟩
  have tcf : decide (cc.pc.length ≤ k) = false := decide_eq_false (by omega)
  have HCf := hid hcf
  obtain ⟨b2, of2, rfl, hbw2, hpc⟩ := HCc.out (by omega)
  obtain ⟨f, hf⟩ : ∃ f, cc.pc.getD k Pc.zero = f := ⟨_, rfl⟩
  have HF0 := hid (show ∀ j, j < 5 → w.cell? ⟨b2, of2 + k * 5 + j, none⟩ = some (f.cells.getD j .nilIface) from fun j hj => by rw [← hf]; exact hpc k hcf j hj)
  have HF := hid hf
  clear hf hpc
  obtain ⟨b1, off, rfl, hbw, hpx⟩ := HPc.out (by omega)
  have HP0 := hid (show PxAt w b1 (off + k * 18) (c.pr.getD k Px.zero) from fun j hj => hpx k hk j hj)
  clear hpx
  obtain ⟨r, hr⟩ : ∃ r, c.pr.getD k Px.zero = r := ⟨_, rfl⟩
  rw [hr] at HP0
  have HR := hid hr
  have HK := hid hk
  clear hr
  clear kCB2
  have kCB2 : v4.cell? ⟨w.heap.size, 2, none⟩ = some (.slice (some ⟨b2, of2, none⟩) cc.pc.length cpc) := (BoxAt.cell CB.out 2).trans (by show some qc.v2.val = _; rw [HCv.out])
  have kPB4 : v4.cell? ⟨v1.heap.size, 4, none⟩ = some (.slice (some ⟨b1, off, none⟩) c.pr.length cpp) := (BoxAt.cell PB.out 4).trans (by show some q.pr.val = _; rw [HPv.out])
  by_cases hst : r.st = 0
  · have HD := hid (show suspD f r = ⟨r, false, 4⟩ from by unfold suspD; rw [if_pos (.inl hst)])
    have FL6 := hid trivial
    have FL7 := hid trivial
    have FL8 := hid trivial
    go_wp2_with (first
      | (refine wpList_load_px rfl _ rfl b1 (off + k * 18) rfl r (HP0.out.below HB.out hbw) ?_)
      | (have hfl := FL6.out
         refine wpList_new rfl 58 rfl _ Try.zeroPx ?_
         intro v7 b h z
         have XB := hid (show BoxAt v7 v4.heap.size 58 (Px.cells Px.zero).toArray from b)
         have CB := hid (CB.out.belowAll h)
         have PB := hid (PB.out.belowAll h)
         have RB := hid (RB.out.belowAll h)
         have HB := hid (HB.out.trans (h.mono HB.out.size))
         have hsv7 : v4.heap.size + 1 ≤ v7.heap.size := by omega
         clear kCB2
         have kCB2 : v7.cell? ⟨w.heap.size, 2, none⟩ = some (.slice (some ⟨b2, of2, none⟩) cc.pc.length cpc) := (BoxAt.cell CB.out 2).trans (by show some qc.v2.val = _; rw [HCv.out])
         clear kPB4
         have kPB4 : v7.cell? ⟨v1.heap.size, 4, none⟩ = some (.slice (some ⟨b1, off, none⟩) c.pr.length cpp) := (BoxAt.cell PB.out 4).trans (by show some q.pr.val = _; rw [HPv.out])
         have kpe : v7.cell? ⟨b2, of2 + k * 5 + 1, none⟩ = some (.int .i64 f.pe) := (HB.out.cell (by exact hbw2)).trans (HF0.out 1 (by decide))
         clear b h z hfl FL6)
      | (have hfl := FL7.out
         refine wpList_store_whole rfl 58 _ _ rfl rfl v4.heap.size rfl (Px.cells r) rfl _ _ XB.out rfl Try.infoPx (Px.one _) ?_
         intro v8 b g z
         have hsv8 : v7.heap.size ≤ v8.heap.size := by omega
         have XB := hid (show BoxAt v8 v4.heap.size 58 (Px.cells r).toArray from b)
         have CB := hid (CB.out.grown g (fun e => by have := Option.some.inj e; omega))
         have PB := hid (PB.out.grown g (fun e => by have := Option.some.inj e; omega))
         have RB := hid (RB.out.grown g (fun e => by have := Option.some.inj e; omega))
         have HB := hid (HB.out.trans (grown_below g (by omega) (by omega)))
         clear kCB2
         have kCB2 : v8.cell? ⟨w.heap.size, 2, none⟩ = some (.slice (some ⟨b2, of2, none⟩) cc.pc.length cpc) := (BoxAt.cell CB.out 2).trans (by show some qc.v2.val = _; rw [HCv.out])
         clear kPB4
         have kPB4 : v8.cell? ⟨v1.heap.size, 4, none⟩ = some (.slice (some ⟨b1, off, none⟩) c.pr.length cpp) := (BoxAt.cell PB.out 4).trans (by show some q.pr.val = _; rw [HPv.out])
         have kXB0 : v8.cell? ⟨v4.heap.size, 0, none⟩ = some (.int .i64 r.st) := (BoxAt.cell XB.out 0).trans rfl
         clear kpe
         have kpe : v8.cell? ⟨b2, of2 + k * 5 + 1, none⟩ = some (.int .i64 f.pe) := (HB.out.cell (by exact hbw2)).trans (HF0.out 1 (by decide))
         clear b g z hfl FL7)
      | (refine wpList_load_box rfl 39 _ rfl v1.heap.size rfl _ _ PB.out _ Try.underlying39 Try.infoPa ?_)
      | (have hfl := FL8.out
         refine wpList_store_whole rfl 39 _ _ rfl rfl v2.heap.size rfl (PaV.cells q) rfl _ _ RB.out rfl Try.infoPa (PaV.one _) ?_
         intro v9 b g z
         have hsv9 : v8.heap.size ≤ v9.heap.size := by omega
         have RB := hid (show BoxAt v9 v2.heap.size 39 (PaV.cells q).toArray from b)
         have CB := hid (CB.out.grown g (fun e => by have := Option.some.inj e; omega))
         have PB := hid (PB.out.grown g (fun e => by have := Option.some.inj e; omega))
         have XB := hid (XB.out.grown g (fun e => by have := Option.some.inj e; omega))
         have HB := hid (HB.out.trans (grown_below g (by omega) (by omega)))
         clear kCB2
         have kCB2 : v9.cell? ⟨w.heap.size, 2, none⟩ = some (.slice (some ⟨b2, of2, none⟩) cc.pc.length cpc) := (BoxAt.cell CB.out 2).trans (by show some qc.v2.val = _; rw [HCv.out])
         clear kPB4
         have kPB4 : v9.cell? ⟨v1.heap.size, 4, none⟩ = some (.slice (some ⟨b1, off, none⟩) c.pr.length cpp) := (BoxAt.cell PB.out 4).trans (by show some q.pr.val = _; rw [HPv.out])
         clear kXB0
         have kXB0 : v9.cell? ⟨v4.heap.size, 0, none⟩ = some (.int .i64 r.st) := (BoxAt.cell XB.out 0).trans rfl
         clear kpe
         have kpe : v9.cell? ⟨b2, of2 + k * 5 + 1, none⟩ = some (.int .i64 f.pe) := (HB.out.cell (by exact hbw2)).trans (HF0.out 1 (by decide))
         clear b g z hfl FL8)
      | fail)
    refine bodyPost_ret (results_box_tmp rfl _ _ (v2.heap.size) 39 _ (0, 0) _ rfl RB.out Try.underlying39 rfl Try.infoPa) rfl ?_
    rw [show suspP cc c (k : Int) = (c, 4) from by rw [susp_in HCf.out, HF.out]; exact deed_idle HK.out _ (by rw [HR.out]; exact HD.out)]
    exact ⟨q, rfl, PaS.from HA0.out (H0.out.trans (HB.out.mono h0s)), HB.out⟩
  · have thst : (r.st == 0) = false := by simpa using hst
    by_cases hpe : 0 < f.pe
    · have HD := hid (show suspD f r = ⟨r, false, 4⟩ from by unfold suspD; rw [if_pos (.inr hpe)])
      have FL9 := hid trivial
      have FL10 := hid trivial
      have FL11 := hid trivial
      go_wp2_with (first
        | (refine wpList_load_px rfl _ rfl b1 (off + k * 18) rfl r (HP0.out.below HB.out hbw) ?_)
        | (have hfl := FL9.out
           refine wpList_new rfl 58 rfl _ Try.zeroPx ?_
           intro v10 b h z
           have XB := hid (show BoxAt v10 v4.heap.size 58 (Px.cells Px.zero).toArray from b)
           have CB := hid (CB.out.belowAll h)
           have PB := hid (PB.out.belowAll h)
           have RB := hid (RB.out.belowAll h)
           have HB := hid (HB.out.trans (h.mono HB.out.size))
           have hsv10 : v4.heap.size + 1 ≤ v10.heap.size := by omega
           clear kCB2
           have kCB2 : v10.cell? ⟨w.heap.size, 2, none⟩ = some (.slice (some ⟨b2, of2, none⟩) cc.pc.length cpc) := (BoxAt.cell CB.out 2).trans (by show some qc.v2.val = _; rw [HCv.out])
           clear kPB4
           have kPB4 : v10.cell? ⟨v1.heap.size, 4, none⟩ = some (.slice (some ⟨b1, off, none⟩) c.pr.length cpp) := (BoxAt.cell PB.out 4).trans (by show some q.pr.val = _; rw [HPv.out])
           have kpe : v10.cell? ⟨b2, of2 + k * 5 + 1, none⟩ = some (.int .i64 f.pe) := (HB.out.cell (by exact hbw2)).trans (HF0.out 1 (by decide))
           clear b h z hfl FL9)
        | (have hfl := FL10.out
           refine wpList_store_whole rfl 58 _ _ rfl rfl v4.heap.size rfl (Px.cells r) rfl _ _ XB.out rfl Try.infoPx (Px.one _) ?_
           intro v11 b g z
           have hsv11 : v10.heap.size ≤ v11.heap.size := by omega
           have XB := hid (show BoxAt v11 v4.heap.size 58 (Px.cells r).toArray from b)
           have CB := hid (CB.out.grown g (fun e => by have := Option.some.inj e; omega))
           have PB := hid (PB.out.grown g (fun e => by have := Option.some.inj e; omega))
           have RB := hid (RB.out.grown g (fun e => by have := Option.some.inj e; omega))
           have HB := hid (HB.out.trans (grown_below g (by omega) (by omega)))
           clear kCB2
           have kCB2 : v11.cell? ⟨w.heap.size, 2, none⟩ = some (.slice (some ⟨b2, of2, none⟩) cc.pc.length cpc) := (BoxAt.cell CB.out 2).trans (by show some qc.v2.val = _; rw [HCv.out])
           clear kPB4
           have kPB4 : v11.cell? ⟨v1.heap.size, 4, none⟩ = some (.slice (some ⟨b1, off, none⟩) c.pr.length cpp) := (BoxAt.cell PB.out 4).trans (by show some q.pr.val = _; rw [HPv.out])
           have kXB0 : v11.cell? ⟨v4.heap.size, 0, none⟩ = some (.int .i64 r.st) := (BoxAt.cell XB.out 0).trans rfl
           clear kpe
           have kpe : v11.cell? ⟨b2, of2 + k * 5 + 1, none⟩ = some (.int .i64 f.pe) := (HB.out.cell (by exact hbw2)).trans (HF0.out 1 (by decide))
           clear b g z hfl FL10)
        | (refine wpList_load_box rfl 39 _ rfl v1.heap.size rfl _ _ PB.out _ Try.underlying39 Try.infoPa ?_)
        | (have hfl := FL11.out
           refine wpList_store_whole rfl 39 _ _ rfl rfl v2.heap.size rfl (PaV.cells q) rfl _ _ RB.out rfl Try.infoPa (PaV.one _) ?_
           intro v12 b g z
           have hsv12 : v11.heap.size ≤ v12.heap.size := by omega
           have RB := hid (show BoxAt v12 v2.heap.size 39 (PaV.cells q).toArray from b)
           have CB := hid (CB.out.grown g (fun e => by have := Option.some.inj e; omega))
           have PB := hid (PB.out.grown g (fun e => by have := Option.some.inj e; omega))
           have XB := hid (XB.out.grown g (fun e => by have := Option.some.inj e; omega))
           have HB := hid (HB.out.trans (grown_below g (by omega) (by omega)))
           clear kCB2
           have kCB2 : v12.cell? ⟨w.heap.size, 2, none⟩ = some (.slice (some ⟨b2, of2, none⟩) cc.pc.length cpc) := (BoxAt.cell CB.out 2).trans (by show some qc.v2.val = _; rw [HCv.out])
           clear kPB4
           have kPB4 : v12.cell? ⟨v1.heap.size, 4, none⟩ = some (.slice (some ⟨b1, off, none⟩) c.pr.length cpp) := (BoxAt.cell PB.out 4).trans (by show some q.pr.val = _; rw [HPv.out])
           clear kXB0
           have kXB0 : v12.cell? ⟨v4.heap.size, 0, none⟩ = some (.int .i64 r.st) := (BoxAt.cell XB.out 0).trans rfl
           clear kpe
           have kpe : v12.cell? ⟨b2, of2 + k * 5 + 1, none⟩ = some (.int .i64 f.pe) := (HB.out.cell (by exact hbw2)).trans (HF0.out 1 (by decide))
           clear b g z hfl FL11)
        | fail)
      refine bodyPost_ret (results_box_tmp rfl _ _ (v2.heap.size) 39 _ (0, 0) _ rfl RB.out Try.underlying39 rfl Try.infoPa) rfl ?_
      rw [show suspP cc c (k : Int) = (c, 4) from by rw [susp_in HCf.out, HF.out]; exact deed_idle HK.out _ (by rw [HR.out]; exact HD.out)]
      exact ⟨q, rfl, PaS.from HA0.out (H0.out.trans (HB.out.mono h0s)), HB.out⟩
    · have tpe : decide (0 < f.pe) = false := decide_eq_false hpe
      have HN := hid (show ¬ (r.st = 0 ∨ 0 < f.pe) from fun h => h.elim hst hpe)
      clear hst hpe
      rcases hsu : r.su with _ | _
      · have HSu := hid hsu
        clear hsu
        obtain ⟨x1, hx1⟩ : ∃ x : Px, { r with su := true } = x := ⟨_, rfl⟩
        have HX1 := hid hx1
        clear hx1
        have HD := hid (show suspD f r = ⟨x1, false, 0⟩ from by unfold suspD; rw [if_neg HN.out, HSu.out, if_neg Bool.false_ne_true, ← HX1.out])
        have FL12 := hid trivial
        have FL13 := hid trivial
        have FL14 := hid trivial
        go_wp2_with (first
          | (refine wpList_load_px rfl _ rfl b1 (off + k * 18) rfl r (HP0.out.below HB.out hbw) ?_)
          | (have hfl := FL12.out
             refine wpList_new rfl 58 rfl _ Try.zeroPx ?_
             intro v13 b h z
             have XB := hid (show BoxAt v13 v4.heap.size 58 (Px.cells Px.zero).toArray from b)
             have CB := hid (CB.out.belowAll h)
             have PB := hid (PB.out.belowAll h)
             have RB := hid (RB.out.belowAll h)
             have HB := hid (HB.out.trans (h.mono HB.out.size))
             have hsv13 : v4.heap.size + 1 ≤ v13.heap.size := by omega
             clear kCB2
             have kCB2 : v13.cell? ⟨w.heap.size, 2, none⟩ = some (.slice (some ⟨b2, of2, none⟩) cc.pc.length cpc) := (BoxAt.cell CB.out 2).trans (by show some qc.v2.val = _; rw [HCv.out])
             clear kPB4
             have kPB4 : v13.cell? ⟨v1.heap.size, 4, none⟩ = some (.slice (some ⟨b1, off, none⟩) c.pr.length cpp) := (BoxAt.cell PB.out 4).trans (by show some q.pr.val = _; rw [HPv.out])
             have kpe : v13.cell? ⟨b2, of2 + k * 5 + 1, none⟩ = some (.int .i64 f.pe) := (HB.out.cell (by exact hbw2)).trans (HF0.out 1 (by decide))
             clear b h z hfl FL12)
          | (have hfl := FL13.out
             refine wpList_store_whole rfl 58 _ _ rfl rfl v4.heap.size rfl (Px.cells r) rfl _ _ XB.out rfl Try.infoPx (Px.one _) ?_
             intro v14 b g z
             have hsv14 : v13.heap.size ≤ v14.heap.size := by omega
             have XB := hid (show BoxAt v14 v4.heap.size 58 (Px.cells r).toArray from b)
             have CB := hid (CB.out.grown g (fun e => by have := Option.some.inj e; omega))
             have PB := hid (PB.out.grown g (fun e => by have := Option.some.inj e; omega))
             have RB := hid (RB.out.grown g (fun e => by have := Option.some.inj e; omega))
             have HB := hid (HB.out.trans (grown_below g (by omega) (by omega)))
             clear kCB2
             have kCB2 : v14.cell? ⟨w.heap.size, 2, none⟩ = some (.slice (some ⟨b2, of2, none⟩) cc.pc.length cpc) := (BoxAt.cell CB.out 2).trans (by show some qc.v2.val = _; rw [HCv.out])
             clear kPB4
             have kPB4 : v14.cell? ⟨v1.heap.size, 4, none⟩ = some (.slice (some ⟨b1, off, none⟩) c.pr.length cpp) := (BoxAt.cell PB.out 4).trans (by show some q.pr.val = _; rw [HPv.out])
             have kXB0 : v14.cell? ⟨v4.heap.size, 0, none⟩ = some (.int .i64 r.st) := (BoxAt.cell XB.out 0).trans rfl
             have kXB2 : v14.cell? ⟨v4.heap.size, 2, none⟩ = some (.bool false) := (BoxAt.cell XB.out 2).trans (by show some (Value.bool r.su) = _; rw [HSu.out])
             clear kpe
             have kpe : v14.cell? ⟨b2, of2 + k * 5 + 1, none⟩ = some (.int .i64 f.pe) := (HB.out.cell (by exact hbw2)).trans (HF0.out 1 (by decide))
             clear b g z hfl FL13)
          | (have hfl := FL14.out
             refine wpList_store_box rfl 4 _ _ rfl rfl v4.heap.size 2 (.bool true) rfl rfl rfl rfl (by kernel_rfl) _ _ XB.out (by simp [Px.cells]) ?_
             intro v15 b g z
             have hsv15 : v14.heap.size ≤ v15.heap.size := by omega
             have XB := hid (show BoxAt v15 v4.heap.size 58 (Px.cells x1).toArray by rw [← HX1.out]; simpa [Px.cells] using b)
             have CB := hid (CB.out.grown g (fun e => by have := Option.some.inj e; omega))
             have PB := hid (PB.out.grown g (fun e => by have := Option.some.inj e; omega))
             have RB := hid (RB.out.grown g (fun e => by have := Option.some.inj e; omega))
             have HB := hid (HB.out.trans (grown_below g (by omega) (by omega)))
             clear kCB2
             have kCB2 : v15.cell? ⟨w.heap.size, 2, none⟩ = some (.slice (some ⟨b2, of2, none⟩) cc.pc.length cpc) := (BoxAt.cell CB.out 2).trans (by show some qc.v2.val = _; rw [HCv.out])
             clear kPB4
             have kPB4 : v15.cell? ⟨v1.heap.size, 4, none⟩ = some (.slice (some ⟨b1, off, none⟩) c.pr.length cpp) := (BoxAt.cell PB.out 4).trans (by show some q.pr.val = _; rw [HPv.out])
             clear kpe
             have kpe : v15.cell? ⟨b2, of2 + k * 5 + 1, none⟩ = some (.int .i64 f.pe) := (HB.out.cell (by exact hbw2)).trans (HF0.out 1 (by decide))
             clear b g z hfl FL14)
          | (refine wpList_load_box rfl 39 _ rfl v1.heap.size rfl _ _ PB.out _ Try.underlying39 Try.infoPa ?_)
          | (refine wpList_load_box rfl 58 _ rfl v4.heap.size rfl _ _ XB.out _ Try.underlying58 Try.infoPx ?_)
          | fail)
        refine (rwith_s (n := w0.heap.size) k (x1) (PaS.from HA0.out (H0.out.trans (HB.out.mono h0s))) (by omega) HSm.out.pr HK.out).mono ?_
        rintro e v16 ⟨q', rfl, ho, hb⟩
        have CB := hid (CB.out.belowAll hb)
        have PB := hid (PB.out.belowAll hb)
        have RB := hid (RB.out.belowAll hb)
        have XB := hid (XB.out.belowAll hb)
        have HB := hid (HB.out.trans (hb.mono HB.out.size))
        have hsv16 : v15.heap.size ≤ v16.heap.size := hb.size
        have HO := hid ho
        clear ho
        clear kCB2
        have kCB2 : v16.cell? ⟨w.heap.size, 2, none⟩ = some (.slice (some ⟨b2, of2, none⟩) cc.pc.length cpc) := (BoxAt.cell CB.out 2).trans (by show some qc.v2.val = _; rw [HCv.out])
        clear kPB4
        have kPB4 : v16.cell? ⟨v1.heap.size, 4, none⟩ = some (.slice (some ⟨b1, off, none⟩) c.pr.length cpp) := (BoxAt.cell PB.out 4).trans (by show some q.pr.val = _; rw [HPv.out])
        clear kpe
        have kpe : v16.cell? ⟨b2, of2 + k * 5 + 1, none⟩ = some (.int .i64 f.pe) := (HB.out.cell (by exact hbw2)).trans (HF0.out 1 (by decide))
        clear hb
        have FL15 := hid trivial
        go_wp2_with (first
          | (have hfl := FL15.out
             refine wpList_store_whole rfl 39 _ _ rfl rfl v2.heap.size rfl (PaV.cells q') rfl _ _ RB.out rfl Try.infoPa (PaV.one _) ?_
             intro v17 b g z
             have hsv17 : v16.heap.size ≤ v17.heap.size := by omega
             have HO := hid (HO.out.put (by omega) (by omega) g RB.out b)
             have RB := hid (show BoxAt v17 v2.heap.size 39 (PaV.cells q').toArray from b)
             have CB := hid (CB.out.grown g (fun e => by have := Option.some.inj e; omega))
             have PB := hid (PB.out.grown g (fun e => by have := Option.some.inj e; omega))
             have XB := hid (XB.out.grown g (fun e => by have := Option.some.inj e; omega))
             have HB := hid (HB.out.trans (grown_below g (by omega) (by omega)))
             clear kCB2
             have kCB2 : v17.cell? ⟨w.heap.size, 2, none⟩ = some (.slice (some ⟨b2, of2, none⟩) cc.pc.length cpc) := (BoxAt.cell CB.out 2).trans (by show some qc.v2.val = _; rw [HCv.out])
             clear kPB4
             have kPB4 : v17.cell? ⟨v1.heap.size, 4, none⟩ = some (.slice (some ⟨b1, off, none⟩) c.pr.length cpp) := (BoxAt.cell PB.out 4).trans (by show some q.pr.val = _; rw [HPv.out])
             clear kpe
             have kpe : v17.cell? ⟨b2, of2 + k * 5 + 1, none⟩ = some (.int .i64 f.pe) := (HB.out.cell (by exact hbw2)).trans (HF0.out 1 (by decide))
             clear b g z hfl FL15)
          | fail)
        refine bodyPost_ret (results_box_tmp rfl _ _ (v2.heap.size) 39 _ (0, 0) _ rfl RB.out Try.underlying39 rfl Try.infoPa) rfl ?_
        rw [show suspP cc c (k : Int) = ({ c with pr := c.pr.set k x1 }, 0) from by rw [susp_in HCf.out, HF.out]; exact deed_does HK.out _ (by rw [HR.out]; exact HD.out)]
        exact ⟨q', rfl, HO.out, HB.out⟩
      · have HSu := hid hsu
        clear hsu
        have HD := hid (show suspD f r = ⟨r, false, 1⟩ from by unfold suspD; rw [if_neg HN.out, HSu.out, if_pos rfl])
        have FL16 := hid trivial
        have FL17 := hid trivial
        have FL18 := hid trivial
        go_wp2_with (first
          | (refine wpList_load_px rfl _ rfl b1 (off + k * 18) rfl r (HP0.out.below HB.out hbw) ?_)
          | (have hfl := FL16.out
             refine wpList_new rfl 58 rfl _ Try.zeroPx ?_
             intro v18 b h z
             have XB := hid (show BoxAt v18 v4.heap.size 58 (Px.cells Px.zero).toArray from b)
             have CB := hid (CB.out.belowAll h)
             have PB := hid (PB.out.belowAll h)
             have RB := hid (RB.out.belowAll h)
             have HB := hid (HB.out.trans (h.mono HB.out.size))
             have hsv18 : v4.heap.size + 1 ≤ v18.heap.size := by omega
             clear kCB2
             have kCB2 : v18.cell? ⟨w.heap.size, 2, none⟩ = some (.slice (some ⟨b2, of2, none⟩) cc.pc.length cpc) := (BoxAt.cell CB.out 2).trans (by show some qc.v2.val = _; rw [HCv.out])
             clear kPB4
             have kPB4 : v18.cell? ⟨v1.heap.size, 4, none⟩ = some (.slice (some ⟨b1, off, none⟩) c.pr.length cpp) := (BoxAt.cell PB.out 4).trans (by show some q.pr.val = _; rw [HPv.out])
             have kpe : v18.cell? ⟨b2, of2 + k * 5 + 1, none⟩ = some (.int .i64 f.pe) := (HB.out.cell (by exact hbw2)).trans (HF0.out 1 (by decide))
             clear b h z hfl FL16)
          | (have hfl := FL17.out
             refine wpList_store_whole rfl 58 _ _ rfl rfl v4.heap.size rfl (Px.cells r) rfl _ _ XB.out rfl Try.infoPx (Px.one _) ?_
             intro v19 b g z
             have hsv19 : v18.heap.size ≤ v19.heap.size := by omega
             have XB := hid (show BoxAt v19 v4.heap.size 58 (Px.cells r).toArray from b)
             have CB := hid (CB.out.grown g (fun e => by have := Option.some.inj e; omega))
             have PB := hid (PB.out.grown g (fun e => by have := Option.some.inj e; omega))
             have RB := hid (RB.out.grown g (fun e => by have := Option.some.inj e; omega))
             have HB := hid (HB.out.trans (grown_below g (by omega) (by omega)))
             clear kCB2
             have kCB2 : v19.cell? ⟨w.heap.size, 2, none⟩ = some (.slice (some ⟨b2, of2, none⟩) cc.pc.length cpc) := (BoxAt.cell CB.out 2).trans (by show some qc.v2.val = _; rw [HCv.out])
             clear kPB4
             have kPB4 : v19.cell? ⟨v1.heap.size, 4, none⟩ = some (.slice (some ⟨b1, off, none⟩) c.pr.length cpp) := (BoxAt.cell PB.out 4).trans (by show some q.pr.val = _; rw [HPv.out])
             have kXB0 : v19.cell? ⟨v4.heap.size, 0, none⟩ = some (.int .i64 r.st) := (BoxAt.cell XB.out 0).trans rfl
             have kXB2 : v19.cell? ⟨v4.heap.size, 2, none⟩ = some (.bool true) := (BoxAt.cell XB.out 2).trans (by show some (Value.bool r.su) = _; rw [HSu.out])
             clear kpe
             have kpe : v19.cell? ⟨b2, of2 + k * 5 + 1, none⟩ = some (.int .i64 f.pe) := (HB.out.cell (by exact hbw2)).trans (HF0.out 1 (by decide))
             clear b g z hfl FL17)
          | (refine wpList_load_box rfl 39 _ rfl v1.heap.size rfl _ _ PB.out _ Try.underlying39 Try.infoPa ?_)
          | (have hfl := FL18.out
             refine wpList_store_whole rfl 39 _ _ rfl rfl v2.heap.size rfl (PaV.cells q) rfl _ _ RB.out rfl Try.infoPa (PaV.one _) ?_
             intro v20 b g z
             have hsv20 : v19.heap.size ≤ v20.heap.size := by omega
             have RB := hid (show BoxAt v20 v2.heap.size 39 (PaV.cells q).toArray from b)
             have CB := hid (CB.out.grown g (fun e => by have := Option.some.inj e; omega))
             have PB := hid (PB.out.grown g (fun e => by have := Option.some.inj e; omega))
             have XB := hid (XB.out.grown g (fun e => by have := Option.some.inj e; omega))
             have HB := hid (HB.out.trans (grown_below g (by omega) (by omega)))
             clear kCB2
             have kCB2 : v20.cell? ⟨w.heap.size, 2, none⟩ = some (.slice (some ⟨b2, of2, none⟩) cc.pc.length cpc) := (BoxAt.cell CB.out 2).trans (by show some qc.v2.val = _; rw [HCv.out])
             clear kPB4
             have kPB4 : v20.cell? ⟨v1.heap.size, 4, none⟩ = some (.slice (some ⟨b1, off, none⟩) c.pr.length cpp) := (BoxAt.cell PB.out 4).trans (by show some q.pr.val = _; rw [HPv.out])
             clear kXB0
             have kXB0 : v20.cell? ⟨v4.heap.size, 0, none⟩ = some (.int .i64 r.st) := (BoxAt.cell XB.out 0).trans rfl
             clear kXB2
             have kXB2 : v20.cell? ⟨v4.heap.size, 2, none⟩ = some (.bool true) := (BoxAt.cell XB.out 2).trans (by show some (Value.bool r.su) = _; rw [HSu.out])
             clear kpe
             have kpe : v20.cell? ⟨b2, of2 + k * 5 + 1, none⟩ = some (.int .i64 f.pe) := (HB.out.cell (by exact hbw2)).trans (HF0.out 1 (by decide))
             clear b g z hfl FL18)
          | fail)
        refine bodyPost_ret (results_box_tmp rfl _ _ (v2.heap.size) 39 _ (0, 0) _ rfl RB.out Try.underlying39 rfl Try.infoPa) rfl ?_
        rw [show suspP cc c (k : Int) = (c, 1) from by rw [susp_in HCf.out, HF.out]; exact deed_idle HK.out _ (by rw [HR.out]; exact HD.out)]
        exact ⟨q, rfl, PaS.from HA0.out (H0.out.trans (HB.out.mono h0s)), HB.out⟩

end Go.Proofs.Ytfdalcfbhebloaa
