/-
  What times' Period returns.
-/
import Derived.Test.YtdanfnbclbiidaaUAsk
namespace Go.Proofs.Ytdanfnbclbiidaa
open Go.RowKit
set_option linter.unusedVariables false

set_option maxRecDepth 100000 in
set_option maxHeartbeats 6400000 in
theorem period_any {qc : Pv} {cc : Pt} {q : PaV} {c : Pa} {w : World} {i : Int} (hc : PtAt w qc cc) (ha : PaAt w q c) (hsm : c.small) :
    Calls Try.prog 17 #[qc.val, q.val, .int .i64 i] w fun e w' => ∃ q', e = .returned (.tuple #[PaV.val q', .int .i64 (periodP cc c i).2]) ∧ PaO w' w.heap.size q' (periodP cc c i).1 ∧ Below w.heap.size w w' := by
  have HA := hid ha
  have HSm := hid hsm
  have HB := hid (Below.refl w.heap.size w)
  obtain ⟨ap, cpp, hpv, hp1, hp2, hpcell⟩ := ha.pr.form
  have hmax : cpp ≤ 9223372036854775807 := hp2
  have HPv := hid hpv
  have HPc := hid hpcell
  clear ha hsm hpv hp2 hpcell
  obtain ⟨ac, cpc, hcv, hc1, hc2, hccell⟩ := hc.pc.form
  have hmaxc : cpc ≤ 9223372036854775807 := hc2
  have HCv := hid hcv
  have HCc := hid hccell
  clear hc hcv hc2 hccell
  go_enter Try.func17, Try.ntmps17
  have FL1 := hid trivial
  have FL2 := hid trivial
  have FL3 := hid trivial
  go_wp2_with (first
    | (have hfl := FL1.out
       refine wpList_box rfl 28 (.tmp 0) rfl (Pv.cells qc).toArray rfl ?_
       intro v1 b h z
       have CB := hid (show BoxAt v1 w.heap.size 28 (Pv.cells qc).toArray from b)
       have HB := hid (HB.out.trans (h.mono HB.out.size))
       have hsv1 : w.heap.size + 1 ≤ v1.heap.size := by omega
       clear b h z hfl FL1)
    | (have hfl := FL2.out
       refine wpList_box rfl 39 (.tmp 1) rfl (PaV.cells q).toArray rfl ?_
       intro v2 b h z
       have PB := hid (show BoxAt v2 v1.heap.size 39 (PaV.cells q).toArray from b)
       have CB := hid (CB.out.belowAll h)
       have HB := hid (HB.out.trans (h.mono HB.out.size))
       have hsv2 : v1.heap.size + 1 ≤ v2.heap.size := by omega
       clear b h z hfl FL2)
    | (have hfl := FL3.out
       refine wpList_new rfl 39 rfl _ Try.zeroPa ?_
       intro v3 b h z
       have RB := hid (show BoxAt v3 v2.heap.size 39 (PaV.cells PaV.zero).toArray from b)
       have CB := hid (CB.out.belowAll h)
       have PB := hid (PB.out.belowAll h)
       have HB := hid (HB.out.trans (h.mono HB.out.size))
       have hsv3 : v2.heap.size + 1 ≤ v3.heap.size := by omega
       have kPB4 : v3.cell? ⟨v1.heap.size, 4, none⟩ = some (.slice ap c.pr.length cpp) := (BoxAt.cell PB.out 4).trans (by show some q.pr.val = _; rw [HPv.out])
       clear b h z hfl FL3)
    | fail)
  refine (uthere_Px _ _ _ _ _).mono ?_
  rintro e v3 ⟨rfl, rfl⟩
  by_cases hin : 0 ≤ i ∧ i < c.pr.length
  · rw [decide_eq_true hin]
    obtain ⟨k, hki⟩ : ∃ k : Nat, i = (k : Int) := ⟨i.toNat, by omega⟩
    have hk : k < c.pr.length := by omega
    subst hki
    clear hin
    have kCB2 : v3.cell? ⟨w.heap.size, 2, none⟩ = some (.slice ac cc.pc.length cpc) := (BoxAt.cell CB.out 2).trans (by show some qc.v2.val = _; rw [HCv.out])
    clear kPB4
    have kPB4 : v3.cell? ⟨v1.heap.size, 4, none⟩ = some (.slice ap c.pr.length cpp) := (BoxAt.cell PB.out 4).trans (by show some q.pr.val = _; rw [HPv.out])
    go_wp2_with fail
    refine (uthere_Pc _ _ _ _ _).mono ?_
    rintro e v3 ⟨rfl, rfl⟩
    by_cases hinc : 0 ≤ (k : Int) ∧ (k : Int) < cc.pc.length
    · rw [decide_eq_true hinc]
      have hkc : k < cc.pc.length := by omega
      clear hinc
      have HT := hid (show 0 ≤ (k : Int) ∧ (k : Int) < c.pr.length ∧ (k : Int) < cc.pc.length by omega)
      have hkI : (k : Int) < (c.pr.length : Int) := by omega
      have hkM : (k : Int) < (cc.pc.length : Int) := by omega
      obtain ⟨b2, of2, hac, hcw, hccell⟩ := HCc.out (by omega)
      subst hac
      obtain ⟨f, hf⟩ : ∃ f, cc.pc.getD k Pc.zero = f := ⟨_, rfl⟩
      have HFc := hid (show w.cell? ⟨b2, of2 + k * 5 + 1, none⟩ = some (.int .i64 f.pe) from by rw [← hf]; exact hccell k hkc 1 (by decide))
      have HF := hid hf
      clear hf hccell HCc
      obtain ⟨b1, off, hap, hbw, hpx⟩ := HPc.out (by omega)
      subst hap
      have HP0 := hid (show PxAt w b1 (off + k * 18) (c.pr.getD k Px.zero) from fun j hj => hpx k hk j hj)
      clear hpx
      obtain ⟨r, hr⟩ : ∃ r, c.pr.getD k Px.zero = r := ⟨_, rfl⟩
      rw [hr] at HP0
      have HR := hid hr
      have HK := hid hk
      clear hr
      clear kCB2
      have kCB2 : v3.cell? ⟨w.heap.size, 2, none⟩ = some (.slice (some ⟨b2, of2, none⟩) cc.pc.length cpc) := (BoxAt.cell CB.out 2).trans (by show some qc.v2.val = _; rw [HCv.out])
      clear kPB4
      have kPB4 : v3.cell? ⟨v1.heap.size, 4, none⟩ = some (.slice (some ⟨b1, off, none⟩) c.pr.length cpp) := (BoxAt.cell PB.out 4).trans (by show some q.pr.val = _; rw [HPv.out])
      have kL : v3.cell? ⟨b2, of2 + k * 5 + 1, none⟩ = some (.int .i64 f.pe) := (HB.out.cell (p := ⟨b2, of2 + k * 5 + 1, none⟩) hcw).trans HFc.out
      by_cases hp : f.pe = 0
      · have t1 : (f.pe == 0) = true := by simpa using hp
        have HL := hid hp
        clear hp
        have FL4 := hid trivial
        have FL5 := hid trivial
        go_wp2_with (first
          | (refine wpList_load_px rfl _ rfl b1 (off + k * 18) rfl r (HP0.out.below HB.out hbw) ?_)
          | (have hfl := FL4.out
             refine wpList_new rfl 57 rfl _ Try.zeroPx ?_
             intro v4 b h z
             have XB := hid (show BoxAt v4 v3.heap.size 57 (Px.cells Px.zero).toArray from b)
             have CB := hid (CB.out.belowAll h)
             have PB := hid (PB.out.belowAll h)
             have RB := hid (RB.out.belowAll h)
             have HB := hid (HB.out.trans (h.mono HB.out.size))
             have hsv4 : v3.heap.size + 1 ≤ v4.heap.size := by omega
             clear kCB2
             have kCB2 : v4.cell? ⟨w.heap.size, 2, none⟩ = some (.slice (some ⟨b2, of2, none⟩) cc.pc.length cpc) := (BoxAt.cell CB.out 2).trans (by show some qc.v2.val = _; rw [HCv.out])
             clear kPB4
             have kPB4 : v4.cell? ⟨v1.heap.size, 4, none⟩ = some (.slice (some ⟨b1, off, none⟩) c.pr.length cpp) := (BoxAt.cell PB.out 4).trans (by show some q.pr.val = _; rw [HPv.out])
             clear kL
             have kL : v4.cell? ⟨b2, of2 + k * 5 + 1, none⟩ = some (.int .i64 f.pe) := (HB.out.cell (p := ⟨b2, of2 + k * 5 + 1, none⟩) hcw).trans HFc.out
             clear b h z hfl FL4)
          | (have hfl := FL5.out
             refine wpList_store_whole rfl 57 _ _ rfl rfl v3.heap.size rfl (Px.cells r) rfl _ _ XB.out rfl Try.infoPx (Px.one _) ?_
             intro v5 b g z
             have hsv5 : v4.heap.size ≤ v5.heap.size := by omega
             have XB := hid (show BoxAt v5 v3.heap.size 57 (Px.cells r).toArray from b)
             have CB := hid (CB.out.grown g (fun e => by have := Option.some.inj e; omega))
             have PB := hid (PB.out.grown g (fun e => by have := Option.some.inj e; omega))
             have RB := hid (RB.out.grown g (fun e => by have := Option.some.inj e; omega))
             have HB := hid (HB.out.trans (grown_below g (by omega) (by omega)))
             clear kCB2
             have kCB2 : v5.cell? ⟨w.heap.size, 2, none⟩ = some (.slice (some ⟨b2, of2, none⟩) cc.pc.length cpc) := (BoxAt.cell CB.out 2).trans (by show some qc.v2.val = _; rw [HCv.out])
             clear kPB4
             have kPB4 : v5.cell? ⟨v1.heap.size, 4, none⟩ = some (.slice (some ⟨b1, off, none⟩) c.pr.length cpp) := (BoxAt.cell PB.out 4).trans (by show some q.pr.val = _; rw [HPv.out])
             have kXB0 : v5.cell? ⟨v3.heap.size, 0, none⟩ = some (.int .i64 r.st) := (BoxAt.cell XB.out 0).trans rfl
             clear kL
             have kL : v5.cell? ⟨b2, of2 + k * 5 + 1, none⟩ = some (.int .i64 f.pe) := (HB.out.cell (p := ⟨b2, of2 + k * 5 + 1, none⟩) hcw).trans HFc.out
             clear b g z hfl FL5)
          | (with_reducible refine wpList_dst 40 rfl ?_
             refine wpList_load_box rfl 39 _ rfl v1.heap.size rfl _ _ PB.out _ Try.underlying39 Try.infoPa ?_)
          | fail)
        refine (own_any (HA.out.below HB.out) HSm.out).mono ?_
        rintro e v6 ⟨q', rfl, ho, hb⟩
        have CB := hid (CB.out.belowAll hb)
        have PB := hid (PB.out.belowAll hb)
        have RB := hid (RB.out.belowAll hb)
        have XB := hid (XB.out.belowAll hb)
        have HB := hid (HB.out.trans (hb.mono HB.out.size))
        have hsv6 : v5.heap.size ≤ v6.heap.size := hb.size
        have HO := hid (ho.mono (show w.heap.size ≤ v5.heap.size by omega))
        clear ho
        clear hb
        have FL6 := hid trivial
        go_wp2_with (first
          | (have hfl := FL6.out
             refine wpList_store_whole rfl 39 _ _ rfl rfl v2.heap.size rfl (PaV.cells q') rfl _ _ RB.out rfl Try.infoPa (PaV.one _) ?_
             intro v7 b g z
             have hsv7 : v6.heap.size ≤ v7.heap.size := by omega
             have HO := hid (HO.out.turn (Turns.grown (S := fun t => t = 39) RB.out b rfl g))
             have RB := hid (show BoxAt v7 v2.heap.size 39 (PaV.cells q').toArray from b)
             have CB := hid (CB.out.grown g (fun e => by have := Option.some.inj e; omega))
             have PB := hid (PB.out.grown g (fun e => by have := Option.some.inj e; omega))
             have XB := hid (XB.out.grown g (fun e => by have := Option.some.inj e; omega))
             have HB := hid (HB.out.trans (grown_below g (by omega) (by omega)))
             clear b g z hfl FL6)
          | fail)
        refine bodyPost_ret (results_box_tmp rfl _ _ (v2.heap.size) 39 _ (0, 0) _ rfl RB.out Try.underlying39 rfl Try.infoPa) rfl ?_
        rw [show periodP cc c (k : Int) = (c, 4) from by unfold periodP; rw [if_pos HT.out, if_pos (by rw [Int.toNat_natCast, HF.out]; exact .inl HL.out)]]
        exact ⟨q', rfl, HO.out, HB.out⟩
      · have t1 : (f.pe == 0) = false := by simpa using hp
        have HL := hid hp
        clear hp
        by_cases hst : r.st ≠ 1
        · have t2 : (r.st != 1) = true := by simpa using hst
          have HS := hid hst
          clear hst
          have FL7 := hid trivial
          have FL8 := hid trivial
          go_wp2_with (first
            | (refine wpList_load_px rfl _ rfl b1 (off + k * 18) rfl r (HP0.out.below HB.out hbw) ?_)
            | (have hfl := FL7.out
               refine wpList_new rfl 57 rfl _ Try.zeroPx ?_
               intro v8 b h z
               have XB := hid (show BoxAt v8 v3.heap.size 57 (Px.cells Px.zero).toArray from b)
               have CB := hid (CB.out.belowAll h)
               have PB := hid (PB.out.belowAll h)
               have RB := hid (RB.out.belowAll h)
               have HB := hid (HB.out.trans (h.mono HB.out.size))
               have hsv8 : v3.heap.size + 1 ≤ v8.heap.size := by omega
               clear kCB2
               have kCB2 : v8.cell? ⟨w.heap.size, 2, none⟩ = some (.slice (some ⟨b2, of2, none⟩) cc.pc.length cpc) := (BoxAt.cell CB.out 2).trans (by show some qc.v2.val = _; rw [HCv.out])
               clear kPB4
               have kPB4 : v8.cell? ⟨v1.heap.size, 4, none⟩ = some (.slice (some ⟨b1, off, none⟩) c.pr.length cpp) := (BoxAt.cell PB.out 4).trans (by show some q.pr.val = _; rw [HPv.out])
               clear kL
               have kL : v8.cell? ⟨b2, of2 + k * 5 + 1, none⟩ = some (.int .i64 f.pe) := (HB.out.cell (p := ⟨b2, of2 + k * 5 + 1, none⟩) hcw).trans HFc.out
               clear b h z hfl FL7)
            | (have hfl := FL8.out
               refine wpList_store_whole rfl 57 _ _ rfl rfl v3.heap.size rfl (Px.cells r) rfl _ _ XB.out rfl Try.infoPx (Px.one _) ?_
               intro v9 b g z
               have hsv9 : v8.heap.size ≤ v9.heap.size := by omega
               have XB := hid (show BoxAt v9 v3.heap.size 57 (Px.cells r).toArray from b)
               have CB := hid (CB.out.grown g (fun e => by have := Option.some.inj e; omega))
               have PB := hid (PB.out.grown g (fun e => by have := Option.some.inj e; omega))
               have RB := hid (RB.out.grown g (fun e => by have := Option.some.inj e; omega))
               have HB := hid (HB.out.trans (grown_below g (by omega) (by omega)))
               clear kCB2
               have kCB2 : v9.cell? ⟨w.heap.size, 2, none⟩ = some (.slice (some ⟨b2, of2, none⟩) cc.pc.length cpc) := (BoxAt.cell CB.out 2).trans (by show some qc.v2.val = _; rw [HCv.out])
               clear kPB4
               have kPB4 : v9.cell? ⟨v1.heap.size, 4, none⟩ = some (.slice (some ⟨b1, off, none⟩) c.pr.length cpp) := (BoxAt.cell PB.out 4).trans (by show some q.pr.val = _; rw [HPv.out])
               have kXB0 : v9.cell? ⟨v3.heap.size, 0, none⟩ = some (.int .i64 r.st) := (BoxAt.cell XB.out 0).trans rfl
               clear kL
               have kL : v9.cell? ⟨b2, of2 + k * 5 + 1, none⟩ = some (.int .i64 f.pe) := (HB.out.cell (p := ⟨b2, of2 + k * 5 + 1, none⟩) hcw).trans HFc.out
               clear b g z hfl FL8)
            | (with_reducible refine wpList_dst 40 rfl ?_
               refine wpList_load_box rfl 39 _ rfl v1.heap.size rfl _ _ PB.out _ Try.underlying39 Try.infoPa ?_)
            | fail)
          refine (own_any (HA.out.below HB.out) HSm.out).mono ?_
          rintro e v10 ⟨q', rfl, ho, hb⟩
          have CB := hid (CB.out.belowAll hb)
          have PB := hid (PB.out.belowAll hb)
          have RB := hid (RB.out.belowAll hb)
          have XB := hid (XB.out.belowAll hb)
          have HB := hid (HB.out.trans (hb.mono HB.out.size))
          have hsv10 : v9.heap.size ≤ v10.heap.size := hb.size
          have HO := hid (ho.mono (show w.heap.size ≤ v9.heap.size by omega))
          clear ho
          clear hb
          have FL9 := hid trivial
          go_wp2_with (first
            | (have hfl := FL9.out
               refine wpList_store_whole rfl 39 _ _ rfl rfl v2.heap.size rfl (PaV.cells q') rfl _ _ RB.out rfl Try.infoPa (PaV.one _) ?_
               intro v11 b g z
               have hsv11 : v10.heap.size ≤ v11.heap.size := by omega
               have HO := hid (HO.out.turn (Turns.grown (S := fun t => t = 39) RB.out b rfl g))
               have RB := hid (show BoxAt v11 v2.heap.size 39 (PaV.cells q').toArray from b)
               have CB := hid (CB.out.grown g (fun e => by have := Option.some.inj e; omega))
               have PB := hid (PB.out.grown g (fun e => by have := Option.some.inj e; omega))
               have XB := hid (XB.out.grown g (fun e => by have := Option.some.inj e; omega))
               have HB := hid (HB.out.trans (grown_below g (by omega) (by omega)))
               clear b g z hfl FL9)
            | fail)
          refine bodyPost_ret (results_box_tmp rfl _ _ (v2.heap.size) 39 _ (0, 0) _ rfl RB.out Try.underlying39 rfl Try.infoPa) rfl ?_
          rw [show periodP cc c (k : Int) = (c, 4) from by unfold periodP; rw [if_pos HT.out, if_pos (by rw [Int.toNat_natCast, HR.out]; exact .inr HS.out)]]
          exact ⟨q', rfl, HO.out, HB.out⟩
        · have hs1 : r.st = 1 := Decidable.not_not.1 hst
          have t2 : (r.st != 1) = false := by simpa using hs1
          have HS := hid hs1
          clear hst hs1
          have FL10 := hid trivial
          have FL11 := hid trivial
          go_wp2_with (first
            | (refine wpList_load_px rfl _ rfl b1 (off + k * 18) rfl r (HP0.out.below HB.out hbw) ?_)
            | (have hfl := FL10.out
               refine wpList_new rfl 57 rfl _ Try.zeroPx ?_
               intro v12 b h z
               have XB := hid (show BoxAt v12 v3.heap.size 57 (Px.cells Px.zero).toArray from b)
               have CB := hid (CB.out.belowAll h)
               have PB := hid (PB.out.belowAll h)
               have RB := hid (RB.out.belowAll h)
               have HB := hid (HB.out.trans (h.mono HB.out.size))
               have hsv12 : v3.heap.size + 1 ≤ v12.heap.size := by omega
               clear kCB2
               have kCB2 : v12.cell? ⟨w.heap.size, 2, none⟩ = some (.slice (some ⟨b2, of2, none⟩) cc.pc.length cpc) := (BoxAt.cell CB.out 2).trans (by show some qc.v2.val = _; rw [HCv.out])
               clear kPB4
               have kPB4 : v12.cell? ⟨v1.heap.size, 4, none⟩ = some (.slice (some ⟨b1, off, none⟩) c.pr.length cpp) := (BoxAt.cell PB.out 4).trans (by show some q.pr.val = _; rw [HPv.out])
               clear kL
               have kL : v12.cell? ⟨b2, of2 + k * 5 + 1, none⟩ = some (.int .i64 f.pe) := (HB.out.cell (p := ⟨b2, of2 + k * 5 + 1, none⟩) hcw).trans HFc.out
               clear b h z hfl FL10)
            | (have hfl := FL11.out
               refine wpList_store_whole rfl 57 _ _ rfl rfl v3.heap.size rfl (Px.cells r) rfl _ _ XB.out rfl Try.infoPx (Px.one _) ?_
               intro v13 b g z
               have hsv13 : v12.heap.size ≤ v13.heap.size := by omega
               have XB := hid (show BoxAt v13 v3.heap.size 57 (Px.cells r).toArray from b)
               have CB := hid (CB.out.grown g (fun e => by have := Option.some.inj e; omega))
               have PB := hid (PB.out.grown g (fun e => by have := Option.some.inj e; omega))
               have RB := hid (RB.out.grown g (fun e => by have := Option.some.inj e; omega))
               have HB := hid (HB.out.trans (grown_below g (by omega) (by omega)))
               clear kCB2
               have kCB2 : v13.cell? ⟨w.heap.size, 2, none⟩ = some (.slice (some ⟨b2, of2, none⟩) cc.pc.length cpc) := (BoxAt.cell CB.out 2).trans (by show some qc.v2.val = _; rw [HCv.out])
               clear kPB4
               have kPB4 : v13.cell? ⟨v1.heap.size, 4, none⟩ = some (.slice (some ⟨b1, off, none⟩) c.pr.length cpp) := (BoxAt.cell PB.out 4).trans (by show some q.pr.val = _; rw [HPv.out])
               have kXB0 : v13.cell? ⟨v3.heap.size, 0, none⟩ = some (.int .i64 r.st) := (BoxAt.cell XB.out 0).trans rfl
               have kXB13 : v13.cell? ⟨v3.heap.size, 13, none⟩ = some (.int .i64 r.ne) := (BoxAt.cell XB.out 13).trans rfl
               clear kL
               have kL : v13.cell? ⟨b2, of2 + k * 5 + 1, none⟩ = some (.int .i64 f.pe) := (HB.out.cell (p := ⟨b2, of2 + k * 5 + 1, none⟩) hcw).trans HFc.out
               clear b g z hfl FL11)
            | (with_reducible refine wpList_dst 42 rfl ?_
               refine wpList_load_box rfl 39 _ rfl v1.heap.size rfl _ _ PB.out _ Try.underlying39 Try.infoPa ?_)
            | fail)
          refine (block_api (i := (k : Int)) (ki := 2) (ob := 0) (un := r.ne) (ca := 6) (HA.out.below HB.out) HSm.out).mono ?_
          rintro e v14 ⟨q2, rfl, ho, hb⟩
          have CB := hid (CB.out.belowAll hb)
          have PB := hid (PB.out.belowAll hb)
          have RB := hid (RB.out.belowAll hb)
          have XB := hid (XB.out.belowAll hb)
          have HB := hid (HB.out.trans (hb.mono HB.out.size))
          have hsv14 : v13.heap.size ≤ v14.heap.size := hb.size
          have HO := hid (ho.mono (show w.heap.size ≤ v13.heap.size by omega))
          clear ho
          clear hb
          obtain ⟨y, hy⟩ : ∃ y : Px, { r with st := 2, ki := 2, ob := 0, un := r.ne, ca := 6 } = y := ⟨_, rfl⟩
          have HY := hid hy
          clear hy
          have HBk := hid (show blockP c (k : Int) 2 0 r.ne 6 = { c with pr := c.pr.set k y } from by unfold blockP; rw [deed_does HK.out _ (y := y) (by unfold blockD; rw [HR.out, if_pos HS.out, HY.out])])
          obtain ⟨C2, hC2⟩ : ∃ C2 : Pa, { c with pr := c.pr.set k y } = C2 := ⟨_, rfl⟩
          rw [HBk.out, hC2] at HO
          have HC2 := hid hC2
          have HK2 := hid (show k < C2.pr.length by rw [← hC2]; simpa using HK.out)
          have HR2 := hid (show C2.pr.getD k Px.zero = y by rw [← hC2]; exact getD_set_self HK.out _)
          clear hC2
          obtain ⟨gq, cap, hq1, hg1, hg2, hg3, hg4⟩ := HO.out.hdr (by have := HK2.out; omega)
          have HQ := hid hq1
          clear hq1
          have hk2 : (k : Int) < (C2.pr.length : Int) := by have := HK2.out; omega
          have FL12 := hid trivial
          have FL13 := hid trivial
          have FL14 := hid trivial
          go_wp2_with (first
            | (have hfl := FL12.out
               refine wpList_store_whole rfl 39 _ _ rfl rfl v1.heap.size rfl (PaV.cells q2) rfl _ _ PB.out rfl Try.infoPa (PaV.one _) ?_
               intro v15 b g z
               have hsv15 : v14.heap.size ≤ v15.heap.size := by omega
               have HO := hid (HO.out.turn (Turns.grown (S := fun t => t = 39) PB.out b rfl g))
               have PB := hid (show BoxAt v15 v1.heap.size 39 (PaV.cells q2).toArray from b)
               have CB := hid (CB.out.grown g (fun e => by have := Option.some.inj e; omega))
               have RB := hid (RB.out.grown g (fun e => by have := Option.some.inj e; omega))
               have HB := hid (HB.out.trans (grown_below g (by omega) (by omega)))
               clear kPB4
               have kPB4 : v15.cell? ⟨v1.heap.size, 4, none⟩ = some (.slice (some ⟨gq, 0, none⟩) C2.pr.length cap) := (BoxAt.cell PB.out 4).trans (by show some q2.pr.val = _; rw [HQ.out]; rfl)
               clear b g z hfl FL12)
            | (have hfl := FL13.out
               have HPs := PW.start (base := w.heap.size) (show OP _ w.heap.size (.slice (some ⟨gq, 0, none⟩) C2.pr.length cap) C2.pr from by have h := HO.out.pr; rw [HQ.out] at h; exact h) HK2.out
               rw [HR2.out] at HPs
               refine wpList_store_pw rfl 3 _ _ rfl rfl HPs 12 (by decide) (.int .i64 (-1)) rfl rfl rfl rfl (by kernel_rfl) ({ y with du := -1 }) rfl ?_
               intro v16 hp gr z
               obtain ⟨ht, hbb⟩ := pw_turns HPs hp gr
               have HO := hid (HO.out.wrote HQ.out ht hp)
               have CB := hid (CB.out.turn (S := fun t => t = 57) (by decide) ht)
               have PB := hid (PB.out.turn (S := fun t => t = 57) (by decide) ht)
               have RB := hid (RB.out.turn (S := fun t => t = 57) (by decide) ht)
               have HB := hid (HB.out.trans hbb)
               have hsv16 : v15.heap.size ≤ v16.heap.size := by omega
               clear kPB4
               have kPB4 : v16.cell? ⟨v1.heap.size, 4, none⟩ = some (.slice (some ⟨gq, 0, none⟩) C2.pr.length cap) := (BoxAt.cell PB.out 4).trans (by show some q2.pr.val = _; rw [HQ.out]; rfl)
               clear hp gr z ht hbb HPs hfl FL13)
            | (with_reducible refine wpList_dst 52 rfl ?_
               refine wpList_load_box rfl 39 _ rfl v1.heap.size rfl _ _ PB.out _ Try.underlying39 Try.infoPa ?_)
            | (have hfl := FL14.out
               refine wpList_store_whole rfl 39 _ _ rfl rfl v2.heap.size rfl (PaV.cells q2) rfl _ _ RB.out rfl Try.infoPa (PaV.one _) ?_
               intro v17 b g z
               have hsv17 : v16.heap.size ≤ v17.heap.size := by omega
               have HO := hid (HO.out.turn (Turns.grown (S := fun t => t = 39) RB.out b rfl g))
               have RB := hid (show BoxAt v17 v2.heap.size 39 (PaV.cells q2).toArray from b)
               have CB := hid (CB.out.grown g (fun e => by have := Option.some.inj e; omega))
               have PB := hid (PB.out.grown g (fun e => by have := Option.some.inj e; omega))
               have HB := hid (HB.out.trans (grown_below g (by omega) (by omega)))
               clear kPB4
               have kPB4 : v17.cell? ⟨v1.heap.size, 4, none⟩ = some (.slice (some ⟨gq, 0, none⟩) C2.pr.length cap) := (BoxAt.cell PB.out 4).trans (by show some q2.pr.val = _; rw [HQ.out]; rfl)
               clear b g z hfl FL14)
            | fail)
          refine bodyPost_ret (results_box_tmp rfl _ _ (v2.heap.size) 39 _ (0, 0) _ rfl RB.out Try.underlying39 rfl Try.infoPa) rfl ?_
          rw [show periodP cc c (k : Int) = ({ C2 with pr := C2.pr.set k { y with du := -1 } }, 6) from by unfold periodP; rw [if_pos HT.out, Int.toNat_natCast, if_neg (by rw [HR.out, HF.out]; exact fun h => h.elim HL.out (fun h => h HS.out)), HR.out, ← HC2.out, ← HY.out]; simp only [List.set_set]]
          exact ⟨q2, rfl, HO.out, HB.out⟩
    · have HH := hid hinc
      rw [decide_eq_false hinc]
      clear hinc
      go_wp2_with (first
        | (with_reducible refine wpList_dst 21 rfl ?_
           refine wpList_load_box rfl 39 _ rfl v1.heap.size rfl _ _ PB.out _ Try.underlying39 Try.infoPa ?_)
        | fail)
      refine (own_any (HA.out.below HB.out) HSm.out).mono ?_
      rintro e v18 ⟨q', rfl, ho, hb⟩
      have CB := hid (CB.out.belowAll hb)
      have PB := hid (PB.out.belowAll hb)
      have RB := hid (RB.out.belowAll hb)
      have HB := hid (HB.out.trans (hb.mono HB.out.size))
      have hsv18 : v3.heap.size ≤ v18.heap.size := hb.size
      have HO := hid (ho.mono (show w.heap.size ≤ v3.heap.size by omega))
      clear ho
      clear hb
      have FL15 := hid trivial
      go_wp2_with (first
        | (have hfl := FL15.out
           refine wpList_store_whole rfl 39 _ _ rfl rfl v2.heap.size rfl (PaV.cells q') rfl _ _ RB.out rfl Try.infoPa (PaV.one _) ?_
           intro v19 b g z
           have hsv19 : v18.heap.size ≤ v19.heap.size := by omega
           have HO := hid (HO.out.turn (Turns.grown (S := fun t => t = 39) RB.out b rfl g))
           have RB := hid (show BoxAt v19 v2.heap.size 39 (PaV.cells q').toArray from b)
           have CB := hid (CB.out.grown g (fun e => by have := Option.some.inj e; omega))
           have PB := hid (PB.out.grown g (fun e => by have := Option.some.inj e; omega))
           have HB := hid (HB.out.trans (grown_below g (by omega) (by omega)))
           clear b g z hfl FL15)
        | fail)
      refine bodyPost_ret (results_box_tmp rfl _ _ (v2.heap.size) 39 _ (0, 0) _ rfl RB.out Try.underlying39 rfl Try.infoPa) rfl ?_
      rw [show periodP cc c (k : Int) = (c, 3) from by unfold periodP; rw [if_neg (fun h => HH.out ⟨h.1, h.2.2⟩)]]
      exact ⟨q', rfl, HO.out, HB.out⟩
  · have HH := hid hin
    rw [decide_eq_false hin]
    clear hin
    go_wp2_with (first
      | (with_reducible refine wpList_dst 21 rfl ?_
         refine wpList_load_box rfl 39 _ rfl v1.heap.size rfl _ _ PB.out _ Try.underlying39 Try.infoPa ?_)
      | fail)
    refine (own_any (HA.out.below HB.out) HSm.out).mono ?_
    rintro e v20 ⟨q', rfl, ho, hb⟩
    have CB := hid (CB.out.belowAll hb)
    have PB := hid (PB.out.belowAll hb)
    have RB := hid (RB.out.belowAll hb)
    have HB := hid (HB.out.trans (hb.mono HB.out.size))
    have hsv20 : v3.heap.size ≤ v20.heap.size := hb.size
    have HO := hid (ho.mono (show w.heap.size ≤ v3.heap.size by omega))
    clear ho
    clear hb
    have FL16 := hid trivial
    go_wp2_with (first
      | (have hfl := FL16.out
         refine wpList_store_whole rfl 39 _ _ rfl rfl v2.heap.size rfl (PaV.cells q') rfl _ _ RB.out rfl Try.infoPa (PaV.one _) ?_
         intro v21 b g z
         have hsv21 : v20.heap.size ≤ v21.heap.size := by omega
         have HO := hid (HO.out.turn (Turns.grown (S := fun t => t = 39) RB.out b rfl g))
         have RB := hid (show BoxAt v21 v2.heap.size 39 (PaV.cells q').toArray from b)
         have CB := hid (CB.out.grown g (fun e => by have := Option.some.inj e; omega))
         have PB := hid (PB.out.grown g (fun e => by have := Option.some.inj e; omega))
         have HB := hid (HB.out.trans (grown_below g (by omega) (by omega)))
         clear b g z hfl FL16)
      | fail)
    refine bodyPost_ret (results_box_tmp rfl _ _ (v2.heap.size) 39 _ (0, 0) _ rfl RB.out Try.underlying39 rfl Try.infoPa) rfl ?_
    rw [show periodP cc c i = (c, 3) from by unfold periodP; rw [if_neg (fun h => HH.out ⟨h.1, h.2.1⟩)]]
    exact ⟨q', rfl, HO.out, HB.out⟩

end Go.Proofs.Ytdanfnbclbiidaa
