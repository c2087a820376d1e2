/-
  What the document's Wake returns.
-/
import Derived.Test.YtdanfnbclbiidaaURef4
namespace Go.Proofs.Ytdanfnbclbiidaa
open Go.RowKit
set_option linter.unusedVariables false

theorem Try.infoWkC : (Try.prog.info? 92).map (·.size) = some 3 := by kernel_rfl
theorem Try.zeroWk : (Try.prog.info? 92).bind (·.zero) = some (.agg #[.int .i64 0, .int .i64 0, .int .i64 0]) := by kernel_rfl
theorem wk_one (a b c : Int) : ∀ v ∈ [Value.int .i64 a, .int .i64 b, .int .i64 c], v.oneCell' = true := by
  intro v hv
  simp only [List.mem_cons, List.not_mem_nil, or_false] at hv
  rcases hv with rfl | rfl | rfl <;> rfl
theorem rel_none {f : Pt} {now : Int} {i : Nat} {x : Px} {c : Pa} (h : ¬ (x.ki = 2 ∧ i < f.pc.length)) : relP f now i x c = c := by
  unfold relP relX
  rw [if_neg h, set_getD_self]
theorem wake_yes {f : Pt} {now : Int} {i : Nat} {c D : Pa} {x : Px} (hx : c.pr.getD i Px.zero = x) (ho : overX now x) (hw : wentP c i x = D) (h : ¬ (x.ki = 2 ∧ i < f.pc.length)) : wakeOne f now i c = D := by
  unfold wakeOne
  rw [hx, if_pos ho, hw, rel_none h]
theorem wake_rel {f : Pt} {now : Int} {i : Nat} {c D : Pa} {x y : Px} (hx : c.pr.getD i Px.zero = x) (ho : overX now x) (hw : wentP c i x = D) (h : x.ki = 2 ∧ i < f.pc.length) (hy : { D.pr.getD i Px.zero with du := if 0 < (f.pc.getD i Pc.zero).li then wrap64 (now + (f.pc.getD i Pc.zero).li) else -1, ne := wrap64 (x.un + (f.pc.getD i Pc.zero).pe) } = y) : wakeOne f now i c = { D with pr := D.pr.set i y } := by
  unfold wakeOne
  rw [hx, if_pos ho, hw]
  unfold relP relX
  rw [if_pos h, hy]

set_option maxRecDepth 100000 in
set_option maxHeartbeats 3200000 in
theorem rwake_any {qc : Pv} {cc : Pt} {q : PaV} {c : Pa} {w0 w : World} {now : Int} (hc : PtAt w0 qc cc) (ha : PaAt w0 q c) (h0 : Below w0.heap.size w0 w) (hsm : c.small) :
    Calls Try.prog 13 #[qc.val, q.val, .int .i64 now] w fun e w' => ∃ q', e = .returned (PaV.val q') ∧ PaS w0.heap.size w' q' (wakeP cc c now) ∧ Below w.heap.size w w' := by
  have HZ := hid ((PaZ.from ha).go (Keep.below (Nat.le_refl _) h0))
  have h0s : w0.heap.size ≤ w.heap.size := h0.size
  have HSm := hid hsm
  have HB := hid (Below.refl w.heap.size w)
  obtain ⟨N, hN⟩ : ∃ N, c.pr.length = N := ⟨_, rfl⟩
  have HN := hid hN
  have hN9 : N ≤ 900000 := by rw [← hN]; exact hsm.pr
  obtain ⟨ac, cpc, hcv, hc1, hc2, hccell⟩ := (hc.below h0).pc.form
  obtain ⟨M, hM⟩ : ∃ M, cc.pc.length = M := ⟨_, rfl⟩
  rw [hM] at hcv hc1 hccell
  have HM := hid hM
  have hmaxc : cpc ≤ 9223372036854775807 := hc2
  have HCv := hid hcv
  have HCc := hid hccell
  obtain ⟨n, hn⟩ : ∃ n, w0.heap.size = n := ⟨_, rfl⟩
  rw [hn] at HZ h0s ⊢
  clear hN hM hn ha h0 hsm hc hcv hc2 hccell
  go_enter Try.func13, Try.ntmps13
  have FL1 := hid trivial
  have FL2 := hid trivial
  have FL3 := hid trivial
  go_wp2_with (first
    | (have hfl := FL1.out
       refine wpList_box rfl 28 (.tmp 0) rfl (Pv.cells qc).toArray rfl ?_
       intro v1 b h z
       have CB := hid (show BoxAt v1 w.heap.size 28 (Pv.cells qc).toArray from b)
       have HB := hid (HB.out.trans (h.mono HB.out.size))
       have hsv1 : w.heap.size + 1 ≤ v1.heap.size := by omega
       clear b h z hfl FL1)
    | (have hfl := FL2.out
       refine wpList_box rfl 39 (.tmp 1) rfl (PaV.cells q).toArray rfl ?_
       intro v2 b h z
       have PB := hid (show BoxAt v2 v1.heap.size 39 (PaV.cells q).toArray from b)
       have CB := hid (CB.out.belowAll h)
       have HB := hid (HB.out.trans (h.mono HB.out.size))
       have hsv2 : v1.heap.size + 1 ≤ v2.heap.size := by omega
       clear b h z hfl FL2)
    | (have hfl := FL3.out
       refine wpList_new rfl 39 rfl _ Try.zeroPa ?_
       intro v3 b h z
       have RB := hid (show BoxAt v3 v2.heap.size 39 (PaV.cells PaV.zero).toArray from b)
       have CB := hid (CB.out.belowAll h)
       have PB := hid (PB.out.belowAll h)
       have HB := hid (HB.out.trans (h.mono HB.out.size))
       have hsv3 : v2.heap.size + 1 ≤ v3.heap.size := by omega
       clear b h z hfl FL3)
    | fail)
  have HZ := hid (HZ.out.below h0s HB.out)
  go_loopw [7] (fun t wr => ∃ (k : Nat) (p : PaV), k ≤ N ∧ t = .int .i64 k ∧ Hid (PaZ n wr p (wakeS cc c now k)) ∧ Hid (BoxAt wr w.heap.size 28 (Pv.cells qc).toArray) ∧ Hid (BoxAt wr v1.heap.size 39 (PaV.cells p).toArray) ∧ Hid (BoxAt wr v2.heap.size 39 (PaV.cells PaV.zero).toArray) ∧ Hid (Below w.heap.size w wr) ∧ v3.heap.size ≤ wr.heap.size) (fun t _ => N - (intOf t).toNat)
  case atStart => exact ⟨0, q, Nat.zero_le _, rfl, HZ, CB, PB, RB, HB, Nat.le_refl _⟩
  case round =>
    clear CB PB RB HB HZ
    obtain ⟨k, p, hk, rfl, HZ, CB, PB, RB, HB, hsr⟩ := hrel
    have HSk := hid (wakeS_small (f := cc) (now := now) HSm.out k)
    obtain ⟨C, hC⟩ : ∃ C, wakeS cc c now k = C := ⟨_, rfl⟩
    have HCk := hid hC
    have hln : C.pr.length = N := by rw [← hC, wakeS_len, HN.out]
    rw [hC] at HZ HSk
    clear hC
    obtain ⟨ap, cpp, hpv, hp1, hp2, hpcell⟩ := HZ.out.at.pr.form
    rw [hln] at hpv hp1
    have hmax : cpp ≤ 9223372036854775807 := hp2
    have HPv := hid hpv
    have HLn := hid hln
    clear hpv hp2
    by_cases hlt : k < N
    · obtain ⟨b1, off, hap, hbw, hpx⟩ := hpcell (by rw [hln]; omega)
      subst hap
      obtain ⟨r, hr⟩ : ∃ r, C.pr.getD k Px.zero = r := ⟨_, rfl⟩
      have HR := hid hr
      have HP0 := hid (show PxAt wr b1 (off + k * 18) r from by rw [← hr]; exact fun j hj => hpx k (by rw [hln]; exact hlt) j hj)
      have HLt := hid hlt
      have HK := hid (show k < C.pr.length by rw [hln]; exact hlt)
      clear hpx hr hln
      have hkI : (k : Int) < (N : Int) := by omega
      clear hlt
      have kPB4 : wr.cell? ⟨v1.heap.size, 4, none⟩ = some (.slice (some ⟨b1, off, none⟩) N cpp) := (BoxAt.cell PB.out 4).trans (by show some p.pr.val = _; rw [HPv.out])
      by_cases e0 : r.st = 2
      · have t0 : (r.st != 2) = false := by simpa using e0
        by_cases eu : r.un < 0
        · have tu : decide (r.un < 0) = true := decide_eq_true eu
          have HT := hid (show ¬ overX now r from fun h => by have := h.2.1; omega)
          clear e0 eu
          have HV := hid (Below.refl wr.heap.size wr)
          have FL4 := hid trivial
          have FL5 := hid trivial
          go_wp2_with (first
            | (refine wpList_load_px rfl _ rfl b1 (off + k * 18) rfl r HP0.out ?_)
            | (have hfl := FL4.out
               refine wpList_new rfl 57 rfl _ Try.zeroPx ?_
               intro v4 b h z
               have XB := hid (show BoxAt v4 wr.heap.size 57 (Px.cells Px.zero).toArray from b)
               have CB := hid (CB.out.belowAll h)
               have PB := hid (PB.out.belowAll h)
               have RB := hid (RB.out.belowAll h)
               have HV := hid (HV.out.trans (h.mono HV.out.size))
               have HB := hid (HB.out.trans (h.mono HB.out.size))
               have hsv4 : wr.heap.size + 1 ≤ v4.heap.size := by omega
               clear kPB4
               have kPB4 : v4.cell? ⟨v1.heap.size, 4, none⟩ = some (.slice (some ⟨b1, off, none⟩) N cpp) := (BoxAt.cell PB.out 4).trans (by show some p.pr.val = _; rw [HPv.out])
               clear b h z hfl FL4)
            | (have hfl := FL5.out
               refine wpList_store_whole rfl 57 _ _ rfl rfl wr.heap.size rfl (Px.cells r) rfl _ _ XB.out rfl Try.infoPx (Px.one _) ?_
               intro v5 b g z
               have hsv5 : v4.heap.size ≤ v5.heap.size := by omega
               have HV := hid (HV.out.trans (grown_below g (by omega) (by omega)))
               have XB := hid (show BoxAt v5 wr.heap.size 57 (Px.cells r).toArray from b)
               have CB := hid (CB.out.grown g (fun e => by have := Option.some.inj e; omega))
               have PB := hid (PB.out.grown g (fun e => by have := Option.some.inj e; omega))
               have RB := hid (RB.out.grown g (fun e => by have := Option.some.inj e; omega))
               have HB := hid (HB.out.trans (grown_below g (by omega) (by omega)))
               clear kPB4
               have kPB4 : v5.cell? ⟨v1.heap.size, 4, none⟩ = some (.slice (some ⟨b1, off, none⟩) N cpp) := (BoxAt.cell PB.out 4).trans (by show some p.pr.val = _; rw [HPv.out])
               have kXB0 : v5.cell? ⟨wr.heap.size, 0, none⟩ = some (.int .i64 r.st) := (BoxAt.cell XB.out 0).trans rfl
               have kXB9 : v5.cell? ⟨wr.heap.size, 9, none⟩ = some (.int .i64 r.un) := (BoxAt.cell XB.out 9).trans rfl
               have kXB10 : v5.cell? ⟨wr.heap.size, 10, none⟩ = some (.int .i64 r.ki) := (BoxAt.cell XB.out 10).trans rfl
               clear b g z hfl FL5)
            | fail)
          have HZ := hid (HZ.out.below (by omega) HV.out)
          go_roundw
          case rel => exact ⟨k + 1, p, by have := HLt.out; omega, by go_num, (show Hid (PaZ n _ _ (wakeS cc c now (k + 1))) from by rw [show wakeS cc c now (k + 1) = wakeOne cc now k C from by rw [← HCk.out]; rfl, wakeOne_idle (by rw [HR.out]; exact HT.out)]; exact HZ), CB, PB, RB, HB, by omega⟩
          case measure => have := HLt.out; simp [intOf]; omega
        · have tu : decide (r.un < 0) = false := decide_eq_false eu
          by_cases en : now < r.un
          · have tn : decide (now < r.un) = true := decide_eq_true en
            have HT := hid (show ¬ overX now r from fun h => by have := h.2.2; omega)
            clear e0 eu en
            have HV := hid (Below.refl wr.heap.size wr)
            have FL6 := hid trivial
            have FL7 := hid trivial
            go_wp2_with (first
              | (refine wpList_load_px rfl _ rfl b1 (off + k * 18) rfl r HP0.out ?_)
              | (have hfl := FL6.out
                 refine wpList_new rfl 57 rfl _ Try.zeroPx ?_
                 intro v6 b h z
                 have XB := hid (show BoxAt v6 wr.heap.size 57 (Px.cells Px.zero).toArray from b)
                 have CB := hid (CB.out.belowAll h)
                 have PB := hid (PB.out.belowAll h)
                 have RB := hid (RB.out.belowAll h)
                 have HV := hid (HV.out.trans (h.mono HV.out.size))
                 have HB := hid (HB.out.trans (h.mono HB.out.size))
                 have hsv6 : wr.heap.size + 1 ≤ v6.heap.size := by omega
                 clear kPB4
                 have kPB4 : v6.cell? ⟨v1.heap.size, 4, none⟩ = some (.slice (some ⟨b1, off, none⟩) N cpp) := (BoxAt.cell PB.out 4).trans (by show some p.pr.val = _; rw [HPv.out])
                 clear b h z hfl FL6)
              | (have hfl := FL7.out
                 refine wpList_store_whole rfl 57 _ _ rfl rfl wr.heap.size rfl (Px.cells r) rfl _ _ XB.out rfl Try.infoPx (Px.one _) ?_
                 intro v7 b g z
                 have hsv7 : v6.heap.size ≤ v7.heap.size := by omega
                 have HV := hid (HV.out.trans (grown_below g (by omega) (by omega)))
                 have XB := hid (show BoxAt v7 wr.heap.size 57 (Px.cells r).toArray from b)
                 have CB := hid (CB.out.grown g (fun e => by have := Option.some.inj e; omega))
                 have PB := hid (PB.out.grown g (fun e => by have := Option.some.inj e; omega))
                 have RB := hid (RB.out.grown g (fun e => by have := Option.some.inj e; omega))
                 have HB := hid (HB.out.trans (grown_below g (by omega) (by omega)))
                 clear kPB4
                 have kPB4 : v7.cell? ⟨v1.heap.size, 4, none⟩ = some (.slice (some ⟨b1, off, none⟩) N cpp) := (BoxAt.cell PB.out 4).trans (by show some p.pr.val = _; rw [HPv.out])
                 have kXB0 : v7.cell? ⟨wr.heap.size, 0, none⟩ = some (.int .i64 r.st) := (BoxAt.cell XB.out 0).trans rfl
                 have kXB9 : v7.cell? ⟨wr.heap.size, 9, none⟩ = some (.int .i64 r.un) := (BoxAt.cell XB.out 9).trans rfl
                 have kXB10 : v7.cell? ⟨wr.heap.size, 10, none⟩ = some (.int .i64 r.ki) := (BoxAt.cell XB.out 10).trans rfl
                 clear b g z hfl FL7)
              | fail)
            have HZ := hid (HZ.out.below (by omega) HV.out)
            go_roundw
            case rel => exact ⟨k + 1, p, by have := HLt.out; omega, by go_num, (show Hid (PaZ n _ _ (wakeS cc c now (k + 1))) from by rw [show wakeS cc c now (k + 1) = wakeOne cc now k C from by rw [← HCk.out]; rfl, wakeOne_idle (by rw [HR.out]; exact HT.out)]; exact HZ), CB, PB, RB, HB, by omega⟩
            case measure => have := HLt.out; simp [intOf]; omega
          · have tn : decide (now < r.un) = false := decide_eq_false en
            have HOv := hid (show overX now r from ⟨e0, by omega, by omega⟩)
            clear e0 eu en
            by_cases k1 : r.ki = 1
            · have t1 : (r.ki != 1) = false := by simpa using k1
              have t3 : (r.ki == 2) = false := by rw [k1]; rfl
              have HTm := hid (show timed r = True from eq_true (.inl k1))
              have HNr := hid (show ¬ (r.ki = 2 ∧ k < cc.pc.length) from fun h => by have := h.1; omega)
              clear k1
              have HV := hid (Below.refl wr.heap.size wr)
              have FL8 := hid trivial
              have FL9 := hid trivial
              go_wp2_with (first
                | (refine wpList_load_px rfl _ rfl b1 (off + k * 18) rfl r HP0.out ?_)
                | (have hfl := FL8.out
                   refine wpList_new rfl 57 rfl _ Try.zeroPx ?_
                   intro v8 b h z
                   have XB := hid (show BoxAt v8 wr.heap.size 57 (Px.cells Px.zero).toArray from b)
                   have CB := hid (CB.out.belowAll h)
                   have PB := hid (PB.out.belowAll h)
                   have RB := hid (RB.out.belowAll h)
                   have HV := hid (HV.out.trans (h.mono HV.out.size))
                   have HB := hid (HB.out.trans (h.mono HB.out.size))
                   have hsv8 : wr.heap.size + 1 ≤ v8.heap.size := by omega
                   clear kPB4
                   have kPB4 : v8.cell? ⟨v1.heap.size, 4, none⟩ = some (.slice (some ⟨b1, off, none⟩) N cpp) := (BoxAt.cell PB.out 4).trans (by show some p.pr.val = _; rw [HPv.out])
                   clear b h z hfl FL8)
                | (have hfl := FL9.out
                   refine wpList_store_whole rfl 57 _ _ rfl rfl wr.heap.size rfl (Px.cells r) rfl _ _ XB.out rfl Try.infoPx (Px.one _) ?_
                   intro v9 b g z
                   have hsv9 : v8.heap.size ≤ v9.heap.size := by omega
                   have HV := hid (HV.out.trans (grown_below g (by omega) (by omega)))
                   have XB := hid (show BoxAt v9 wr.heap.size 57 (Px.cells r).toArray from b)
                   have CB := hid (CB.out.grown g (fun e => by have := Option.some.inj e; omega))
                   have PB := hid (PB.out.grown g (fun e => by have := Option.some.inj e; omega))
                   have RB := hid (RB.out.grown g (fun e => by have := Option.some.inj e; omega))
                   have HB := hid (HB.out.trans (grown_below g (by omega) (by omega)))
                   clear kPB4
                   have kPB4 : v9.cell? ⟨v1.heap.size, 4, none⟩ = some (.slice (some ⟨b1, off, none⟩) N cpp) := (BoxAt.cell PB.out 4).trans (by show some p.pr.val = _; rw [HPv.out])
                   have kXB0 : v9.cell? ⟨wr.heap.size, 0, none⟩ = some (.int .i64 r.st) := (BoxAt.cell XB.out 0).trans rfl
                   have kXB9 : v9.cell? ⟨wr.heap.size, 9, none⟩ = some (.int .i64 r.un) := (BoxAt.cell XB.out 9).trans rfl
                   have kXB10 : v9.cell? ⟨wr.heap.size, 10, none⟩ = some (.int .i64 r.ki) := (BoxAt.cell XB.out 10).trans rfl
                   clear b g z hfl FL9
                   refine Hid.out ?_)
                | fail)
              refine hid ?_
              have HZ := hid (HZ.out.below (by omega) HV.out)
              clear HV kPB4
              have FL10 := hid trivial
              have FL11 := hid trivial
              go_wp2_with (first
                | (have hfl := FL10.out
                   refine wpList_new rfl 92 rfl _ Try.zeroWk ?_
                   intro v10 b h z
                   have WB := hid (show BoxAt v10 v9.heap.size 92 [.int .i64 0, .int .i64 0, .int .i64 0].toArray from b)
                   have CB := hid (CB.out.belowAll h)
                   have PB := hid (PB.out.belowAll h)
                   have RB := hid (RB.out.belowAll h)
                   have XB := hid (XB.out.belowAll h)
                   have HZ := hid (HZ.out.below (by omega) h)
                   have HB := hid (HB.out.trans (h.mono HB.out.size))
                   have hsv10 : v9.heap.size + 1 ≤ v10.heap.size := by omega
                   clear kXB0
                   have kXB0 : v10.cell? ⟨wr.heap.size, 0, none⟩ = some (.int .i64 r.st) := (BoxAt.cell XB.out 0).trans rfl
                   clear kXB9
                   have kXB9 : v10.cell? ⟨wr.heap.size, 9, none⟩ = some (.int .i64 r.un) := (BoxAt.cell XB.out 9).trans rfl
                   clear kXB10
                   have kXB10 : v10.cell? ⟨wr.heap.size, 10, none⟩ = some (.int .i64 r.ki) := (BoxAt.cell XB.out 10).trans rfl
                   clear b h z hfl FL10)
                | (have hfl := FL11.out
                   refine wpList_store_whole rfl 92 _ _ rfl rfl v9.heap.size rfl [.int .i64 (k : Int), .int .i64 0, .int .i64 0] rfl _ _ WB.out rfl Try.infoWkC (wk_one _ _ _) ?_
                   intro v11 b g z
                   have hsv11 : v10.heap.size ≤ v11.heap.size := by omega
                   have HZ := hid (HZ.out.putw (by omega) (by omega) g WB.out b)
                   have WB := hid (show BoxAt v11 v9.heap.size 92 [.int .i64 (k : Int), .int .i64 0, .int .i64 0].toArray from b)
                   have CB := hid (CB.out.grown g (fun e => by have := Option.some.inj e; omega))
                   have PB := hid (PB.out.grown g (fun e => by have := Option.some.inj e; omega))
                   have RB := hid (RB.out.grown g (fun e => by have := Option.some.inj e; omega))
                   have XB := hid (XB.out.grown g (fun e => by have := Option.some.inj e; omega))
                   have HB := hid (HB.out.trans (grown_below g (by omega) (by omega)))
                   clear kXB0
                   have kXB0 : v11.cell? ⟨wr.heap.size, 0, none⟩ = some (.int .i64 r.st) := (BoxAt.cell XB.out 0).trans rfl
                   clear kXB9
                   have kXB9 : v11.cell? ⟨wr.heap.size, 9, none⟩ = some (.int .i64 r.un) := (BoxAt.cell XB.out 9).trans rfl
                   clear kXB10
                   have kXB10 : v11.cell? ⟨wr.heap.size, 10, none⟩ = some (.int .i64 r.ki) := (BoxAt.cell XB.out 10).trans rfl
                   clear b g z hfl FL11)
                | (with_reducible refine wpList_dst 51 rfl ?_
                   refine wpList_load_box rfl 39 _ rfl v1.heap.size rfl _ _ PB.out _ Try.underlying39 Try.infoPa ?_)
                | (with_reducible refine wpList_dst 52 rfl ?_
                   refine wpList_load_box rfl 92 _ rfl v9.heap.size rfl _ _ WB.out _ Try.underlying92 Try.infoWkC ?_)
                | fail)
              refine (rgo_z (kp := (k : Int)) (kc := 0) (kv := 0) HZ.out (by omega) (HSk.out)).mono ?_
              rintro e v12 ⟨q2, rfl, hz, hb⟩
              have CB := hid (CB.out.belowAll hb)
              have PB := hid (PB.out.belowAll hb)
              have RB := hid (RB.out.belowAll hb)
              have XB := hid (XB.out.belowAll hb)
              have WB := hid (WB.out.belowAll hb)
              have HZ := hid hz
              have HB := hid (HB.out.trans (hb.mono HB.out.size))
              have hsv12 : v11.heap.size ≤ v12.heap.size := hb.size
              clear kXB0
              have kXB0 : v12.cell? ⟨wr.heap.size, 0, none⟩ = some (.int .i64 r.st) := (BoxAt.cell XB.out 0).trans rfl
              clear kXB9
              have kXB9 : v12.cell? ⟨wr.heap.size, 9, none⟩ = some (.int .i64 r.un) := (BoxAt.cell XB.out 9).trans rfl
              clear kXB10
              have kXB10 : v12.cell? ⟨wr.heap.size, 10, none⟩ = some (.int .i64 r.ki) := (BoxAt.cell XB.out 10).trans rfl
              clear hb
              skip
              obtain ⟨D, hD⟩ : ∃ D, goP C (k : Int) 0 0 = D := ⟨_, rfl⟩
              rw [hD] at HZ
              have HD := hid (show wentP C k r = D from by rw [← hD]; unfold wentP codeX; simp only [HTm.out, if_true])
              clear hD
              have FL12 := hid trivial
              go_wp2_with (first
                | (have hfl := FL12.out
                   refine wpList_store_whole rfl 39 _ _ rfl rfl v1.heap.size rfl (PaV.cells q2) rfl _ _ PB.out rfl Try.infoPa (PaV.one _) ?_
                   intro v13 b g z
                   have hsv13 : v12.heap.size ≤ v13.heap.size := by omega
                   have HZ := hid (HZ.out.put (by omega) (by omega) g PB.out b)
                   have PB := hid (show BoxAt v13 v1.heap.size 39 (PaV.cells q2).toArray from b)
                   have CB := hid (CB.out.grown g (fun e => by have := Option.some.inj e; omega))
                   have RB := hid (RB.out.grown g (fun e => by have := Option.some.inj e; omega))
                   have XB := hid (XB.out.grown g (fun e => by have := Option.some.inj e; omega))
                   have WB := hid (WB.out.grown g (fun e => by have := Option.some.inj e; omega))
                   have HB := hid (HB.out.trans (grown_below g (by omega) (by omega)))
                   clear kXB0
                   have kXB0 : v13.cell? ⟨wr.heap.size, 0, none⟩ = some (.int .i64 r.st) := (BoxAt.cell XB.out 0).trans rfl
                   clear kXB9
                   have kXB9 : v13.cell? ⟨wr.heap.size, 9, none⟩ = some (.int .i64 r.un) := (BoxAt.cell XB.out 9).trans rfl
                   clear kXB10
                   have kXB10 : v13.cell? ⟨wr.heap.size, 10, none⟩ = some (.int .i64 r.ki) := (BoxAt.cell XB.out 10).trans rfl
                   clear b g z hfl FL12)
                | fail)
              go_roundw
              case rel => exact ⟨k + 1, q2, by have := HLt.out; omega, by go_num, (show Hid (PaZ n _ _ (wakeS cc c now (k + 1))) from by rw [show wakeS cc c now (k + 1) = wakeOne cc now k C from by rw [← HCk.out]; rfl, wake_yes HR.out HOv.out HD.out HNr.out]; exact HZ), CB, PB, RB, HB, by omega⟩
              case measure => have := HLt.out; simp [intOf]; omega
            · have t1 : (r.ki != 1) = true := by simpa using k1
              by_cases k2 : r.ki = 2
              · have t2 : (r.ki != 2) = false := by simpa using k2
                have t3 : (r.ki == 2) = true := by simpa using k2
                have HTm := hid (show timed r = True from eq_true (.inr k2))
                have HK2 := hid k2
                clear k1 k2
                have HV := hid (Below.refl wr.heap.size wr)
                have FL13 := hid trivial
                have FL14 := hid trivial
                go_wp2_with (first
                  | (refine wpList_load_px rfl _ rfl b1 (off + k * 18) rfl r HP0.out ?_)
                  | (have hfl := FL13.out
                     refine wpList_new rfl 57 rfl _ Try.zeroPx ?_
                     intro v14 b h z
                     have XB := hid (show BoxAt v14 wr.heap.size 57 (Px.cells Px.zero).toArray from b)
                     have CB := hid (CB.out.belowAll h)
                     have PB := hid (PB.out.belowAll h)
                     have RB := hid (RB.out.belowAll h)
                     have HV := hid (HV.out.trans (h.mono HV.out.size))
                     have HB := hid (HB.out.trans (h.mono HB.out.size))
                     have hsv14 : wr.heap.size + 1 ≤ v14.heap.size := by omega
                     clear kPB4
                     have kPB4 : v14.cell? ⟨v1.heap.size, 4, none⟩ = some (.slice (some ⟨b1, off, none⟩) N cpp) := (BoxAt.cell PB.out 4).trans (by show some p.pr.val = _; rw [HPv.out])
                     clear b h z hfl FL13)
                  | (have hfl := FL14.out
                     refine wpList_store_whole rfl 57 _ _ rfl rfl wr.heap.size rfl (Px.cells r) rfl _ _ XB.out rfl Try.infoPx (Px.one _) ?_
                     intro v15 b g z
                     have hsv15 : v14.heap.size ≤ v15.heap.size := by omega
                     have HV := hid (HV.out.trans (grown_below g (by omega) (by omega)))
                     have XB := hid (show BoxAt v15 wr.heap.size 57 (Px.cells r).toArray from b)
                     have CB := hid (CB.out.grown g (fun e => by have := Option.some.inj e; omega))
                     have PB := hid (PB.out.grown g (fun e => by have := Option.some.inj e; omega))
                     have RB := hid (RB.out.grown g (fun e => by have := Option.some.inj e; omega))
                     have HB := hid (HB.out.trans (grown_below g (by omega) (by omega)))
                     clear kPB4
                     have kPB4 : v15.cell? ⟨v1.heap.size, 4, none⟩ = some (.slice (some ⟨b1, off, none⟩) N cpp) := (BoxAt.cell PB.out 4).trans (by show some p.pr.val = _; rw [HPv.out])
                     have kXB0 : v15.cell? ⟨wr.heap.size, 0, none⟩ = some (.int .i64 r.st) := (BoxAt.cell XB.out 0).trans rfl
                     have kXB9 : v15.cell? ⟨wr.heap.size, 9, none⟩ = some (.int .i64 r.un) := (BoxAt.cell XB.out 9).trans rfl
                     have kXB10 : v15.cell? ⟨wr.heap.size, 10, none⟩ = some (.int .i64 r.ki) := (BoxAt.cell XB.out 10).trans rfl
                     clear b g z hfl FL14
                     refine Hid.out ?_)
                  | fail)
                refine hid ?_
                have HZ := hid (HZ.out.below (by omega) HV.out)
                clear HV kPB4
                have FL15 := hid trivial
                have FL16 := hid trivial
                go_wp2_with (first
                  | (have hfl := FL15.out
                     refine wpList_new rfl 92 rfl _ Try.zeroWk ?_
                     intro v16 b h z
                     have WB := hid (show BoxAt v16 v15.heap.size 92 [.int .i64 0, .int .i64 0, .int .i64 0].toArray from b)
                     have CB := hid (CB.out.belowAll h)
                     have PB := hid (PB.out.belowAll h)
                     have RB := hid (RB.out.belowAll h)
                     have XB := hid (XB.out.belowAll h)
                     have HZ := hid (HZ.out.below (by omega) h)
                     have HB := hid (HB.out.trans (h.mono HB.out.size))
                     have hsv16 : v15.heap.size + 1 ≤ v16.heap.size := by omega
                     clear kXB0
                     have kXB0 : v16.cell? ⟨wr.heap.size, 0, none⟩ = some (.int .i64 r.st) := (BoxAt.cell XB.out 0).trans rfl
                     clear kXB9
                     have kXB9 : v16.cell? ⟨wr.heap.size, 9, none⟩ = some (.int .i64 r.un) := (BoxAt.cell XB.out 9).trans rfl
                     clear kXB10
                     have kXB10 : v16.cell? ⟨wr.heap.size, 10, none⟩ = some (.int .i64 r.ki) := (BoxAt.cell XB.out 10).trans rfl
                     clear b h z hfl FL15)
                  | (have hfl := FL16.out
                     refine wpList_store_whole rfl 92 _ _ rfl rfl v15.heap.size rfl [.int .i64 (k : Int), .int .i64 0, .int .i64 0] rfl _ _ WB.out rfl Try.infoWkC (wk_one _ _ _) ?_
                     intro v17 b g z
                     have hsv17 : v16.heap.size ≤ v17.heap.size := by omega
                     have HZ := hid (HZ.out.putw (by omega) (by omega) g WB.out b)
                     have WB := hid (show BoxAt v17 v15.heap.size 92 [.int .i64 (k : Int), .int .i64 0, .int .i64 0].toArray from b)
                     have CB := hid (CB.out.grown g (fun e => by have := Option.some.inj e; omega))
                     have PB := hid (PB.out.grown g (fun e => by have := Option.some.inj e; omega))
                     have RB := hid (RB.out.grown g (fun e => by have := Option.some.inj e; omega))
                     have XB := hid (XB.out.grown g (fun e => by have := Option.some.inj e; omega))
                     have HB := hid (HB.out.trans (grown_below g (by omega) (by omega)))
                     clear kXB0
                     have kXB0 : v17.cell? ⟨wr.heap.size, 0, none⟩ = some (.int .i64 r.st) := (BoxAt.cell XB.out 0).trans rfl
                     clear kXB9
                     have kXB9 : v17.cell? ⟨wr.heap.size, 9, none⟩ = some (.int .i64 r.un) := (BoxAt.cell XB.out 9).trans rfl
                     clear kXB10
                     have kXB10 : v17.cell? ⟨wr.heap.size, 10, none⟩ = some (.int .i64 r.ki) := (BoxAt.cell XB.out 10).trans rfl
                     clear b g z hfl FL16)
                  | (with_reducible refine wpList_dst 51 rfl ?_
                     refine wpList_load_box rfl 39 _ rfl v1.heap.size rfl _ _ PB.out _ Try.underlying39 Try.infoPa ?_)
                  | (with_reducible refine wpList_dst 52 rfl ?_
                     refine wpList_load_box rfl 92 _ rfl v15.heap.size rfl _ _ WB.out _ Try.underlying92 Try.infoWkC ?_)
                  | fail)
                refine (rgo_z (kp := (k : Int)) (kc := 0) (kv := 0) HZ.out (by omega) (HSk.out)).mono ?_
                rintro e v18 ⟨q2, rfl, hz, hb⟩
                have CB := hid (CB.out.belowAll hb)
                have PB := hid (PB.out.belowAll hb)
                have RB := hid (RB.out.belowAll hb)
                have XB := hid (XB.out.belowAll hb)
                have WB := hid (WB.out.belowAll hb)
                have HZ := hid hz
                have HB := hid (HB.out.trans (hb.mono HB.out.size))
                have hsv18 : v17.heap.size ≤ v18.heap.size := hb.size
                clear kXB0
                have kXB0 : v18.cell? ⟨wr.heap.size, 0, none⟩ = some (.int .i64 r.st) := (BoxAt.cell XB.out 0).trans rfl
                clear kXB9
                have kXB9 : v18.cell? ⟨wr.heap.size, 9, none⟩ = some (.int .i64 r.un) := (BoxAt.cell XB.out 9).trans rfl
                clear kXB10
                have kXB10 : v18.cell? ⟨wr.heap.size, 10, none⟩ = some (.int .i64 r.ki) := (BoxAt.cell XB.out 10).trans rfl
                clear hb
                skip
                obtain ⟨D, hD⟩ : ∃ D, goP C (k : Int) 0 0 = D := ⟨_, rfl⟩
                rw [hD] at HZ
                have HD := hid (show wentP C k r = D from by rw [← hD]; unfold wentP codeX; simp only [HTm.out, if_true])
                clear hD
                by_cases hkc : k < M
                · have hkM : (k : Int) < (M : Int) := by omega
                  obtain ⟨b2, of2, hac, hcw, hccell⟩ := HCc.out (by omega)
                  subst hac
                  obtain ⟨f, hf⟩ : ∃ f, cc.pc.getD k Pc.zero = f := ⟨_, rfl⟩
                  have HFp := hid (show w.cell? ⟨b2, of2 + k * 5 + 1, none⟩ = some (.int .i64 f.pe) from by rw [← hf]; exact hccell k hkc 1 (by decide))
                  have HFl := hid (show w.cell? ⟨b2, of2 + k * 5 + 2, none⟩ = some (.int .i64 f.li) from by rw [← hf]; exact hccell k hkc 2 (by decide))
                  have HF := hid hf
                  have HKc := hid (show k < cc.pc.length by rw [HM.out]; exact hkc)
                  clear hf hccell hkc
                  have hDl : D.pr.length = N := by rw [← HD.out, (went_does HK.out HR.out HOv.out.1).1, List.length_set, HLn.out]
                  obtain ⟨y, hy⟩ : ∃ y, D.pr.getD k Px.zero = y := ⟨_, rfl⟩
                  have HY := hid hy
                  obtain ⟨a3, cp3, hv3, h31, hm3, hcell3⟩ := HZ.out.at.pr.form
                  obtain ⟨b3, of3, ha3, hb3, hpx3⟩ := hcell3 (by rw [hDl]; omega)
                  subst ha3
                  rw [hDl] at hv3 h31
                  have hmax3 : cp3 ≤ 9223372036854775807 := hm3
                  have HV3 := hid hv3
                  have HP3 := hid (show PxAt v18 b3 (of3 + k * 18) y from by rw [← hy]; exact fun j hj => hpx3 k (by rw [hDl]; have := HLt.out; omega) j hj)
                  have HDl := hid hDl
                  clear hy hv3 hm3 hcell3 hpx3 hDl
                  have kCB2 : v18.cell? ⟨w.heap.size, 2, none⟩ = some (.slice (some ⟨b2, of2, none⟩) M cpc) := (BoxAt.cell CB.out 2).trans (by show some qc.v2.val = _; rw [HCv.out])
                  clear kXB0
                  have kXB0 : v18.cell? ⟨wr.heap.size, 0, none⟩ = some (.int .i64 r.st) := (BoxAt.cell XB.out 0).trans rfl
                  clear kXB9
                  have kXB9 : v18.cell? ⟨wr.heap.size, 9, none⟩ = some (.int .i64 r.un) := (BoxAt.cell XB.out 9).trans rfl
                  clear kXB10
                  have kXB10 : v18.cell? ⟨wr.heap.size, 10, none⟩ = some (.int .i64 r.ki) := (BoxAt.cell XB.out 10).trans rfl
                  have kL : v18.cell? ⟨b2, of2 + k * 5 + 2, none⟩ = some (.int .i64 f.li) := ((HB.out.cell (p := ⟨b2, of2 + k * 5 + 2, none⟩) hcw).trans HFl.out)
                  have FL17 := hid trivial
                  go_wp2_with (first
                    | (have hfl := FL17.out
                       refine wpList_store_whole rfl 39 _ _ rfl rfl v1.heap.size rfl (PaV.cells q2) rfl _ _ PB.out rfl Try.infoPa (PaV.one _) ?_
                       intro v19 b g z
                       have hsv19 : v18.heap.size ≤ v19.heap.size := by omega
                       have HZ := hid (HZ.out.put (by omega) (by omega) g PB.out b)
                       have PB := hid (show BoxAt v19 v1.heap.size 39 (PaV.cells q2).toArray from b)
                       have CB := hid (CB.out.grown g (fun e => by have := Option.some.inj e; omega))
                       have RB := hid (RB.out.grown g (fun e => by have := Option.some.inj e; omega))
                       have XB := hid (XB.out.grown g (fun e => by have := Option.some.inj e; omega))
                       have HB := hid (HB.out.trans (grown_below g (by omega) (by omega)))
                       clear kCB2
                       have kCB2 : v19.cell? ⟨w.heap.size, 2, none⟩ = some (.slice (some ⟨b2, of2, none⟩) M cpc) := (BoxAt.cell CB.out 2).trans (by show some qc.v2.val = _; rw [HCv.out])
                       have kPB4 : v19.cell? ⟨v1.heap.size, 4, none⟩ = some (.slice (some ⟨b3, of3, none⟩) N cp3) := (BoxAt.cell PB.out 4).trans (by show some q2.pr.val = _; rw [HV3.out])
                       clear kXB0
                       have kXB0 : v19.cell? ⟨wr.heap.size, 0, none⟩ = some (.int .i64 r.st) := (BoxAt.cell XB.out 0).trans rfl
                       clear kXB9
                       have kXB9 : v19.cell? ⟨wr.heap.size, 9, none⟩ = some (.int .i64 r.un) := (BoxAt.cell XB.out 9).trans rfl
                       clear kXB10
                       have kXB10 : v19.cell? ⟨wr.heap.size, 10, none⟩ = some (.int .i64 r.ki) := (BoxAt.cell XB.out 10).trans rfl
                       clear kL
                       have kL : v19.cell? ⟨b2, of2 + k * 5 + 2, none⟩ = some (.int .i64 f.li) := ((HB.out.cell (p := ⟨b2, of2 + k * 5 + 2, none⟩) hcw).trans HFl.out)
                       clear b g z hfl FL17
                       refine Hid.out ?_)
                    | fail)
                  refine hid ?_
                  have HP3 := hid (show PxAt v19 b3 (of3 + k * 18) y from by
                    obtain ⟨a4, cp4, hv4, h41, hm4, hcell4⟩ := HZ.out.at.pr.form
                    obtain ⟨b4, of4, ha4, hb4, hpx4⟩ := hcell4 (by rw [HDl.out]; have := HLt.out; omega)
                    rw [HV3.out, ha4] at hv4
                    simp only [Value.slice.injEq, Option.some.injEq, Addr.mk.injEq] at hv4
                    obtain ⟨⟨e1, e2, _⟩, _, _⟩ := hv4
                    subst e1
                    subst e2
                    rw [← HY.out]
                    exact fun j hj => hpx4 k (by rw [HDl.out]; have := HLt.out; omega) j hj)
                  by_cases hli : 0 < f.li
                  · have tl : decide (0 < f.li) = true := decide_eq_true hli
                    have HLi := hid hli
                    clear hli
                    have HZ0 := HZ
                    have HV := hid (Below.refl v19.heap.size v19)
                    clear HZ
                    obtain ⟨y1, hy1⟩ : ∃ x : Px, { y with du := -1 } = x := ⟨_, rfl⟩
                    have HY1 := hid hy1
                    clear hy1
                    obtain ⟨y2, hy2⟩ : ∃ x : Px, { y1 with du := wrap64 (now + f.li) } = x := ⟨_, rfl⟩
                    have HY2 := hid hy2
                    clear hy2
                    have FL18 := hid trivial
                    have FL19 := hid trivial
                    have FL20 := hid trivial
                    have FL21 := hid trivial
                    go_wp2_with (first
                      | (refine wpList_load_px rfl _ rfl b3 (of3 + k * 18) rfl y HP3.out ?_)
                      | (have hfl := FL18.out
                         refine wpList_new rfl 57 rfl _ Try.zeroPx ?_
                         intro v20 b h z
                         have YB := hid (show BoxAt v20 v19.heap.size 57 (Px.cells Px.zero).toArray from b)
                         have CB := hid (CB.out.belowAll h)
                         have PB := hid (PB.out.belowAll h)
                         have RB := hid (RB.out.belowAll h)
                         have XB := hid (XB.out.belowAll h)
                         have HV := hid (HV.out.trans (h.mono HV.out.size))
                         have HB := hid (HB.out.trans (h.mono HB.out.size))
                         have hsv20 : v19.heap.size + 1 ≤ v20.heap.size := by omega
                         clear kCB2
                         have kCB2 : v20.cell? ⟨w.heap.size, 2, none⟩ = some (.slice (some ⟨b2, of2, none⟩) M cpc) := (BoxAt.cell CB.out 2).trans (by show some qc.v2.val = _; rw [HCv.out])
                         clear kPB4
                         have kPB4 : v20.cell? ⟨v1.heap.size, 4, none⟩ = some (.slice (some ⟨b3, of3, none⟩) N cp3) := (BoxAt.cell PB.out 4).trans (by show some q2.pr.val = _; rw [HV3.out])
                         clear kXB0
                         have kXB0 : v20.cell? ⟨wr.heap.size, 0, none⟩ = some (.int .i64 r.st) := (BoxAt.cell XB.out 0).trans rfl
                         clear kXB9
                         have kXB9 : v20.cell? ⟨wr.heap.size, 9, none⟩ = some (.int .i64 r.un) := (BoxAt.cell XB.out 9).trans rfl
                         clear kXB10
                         have kXB10 : v20.cell? ⟨wr.heap.size, 10, none⟩ = some (.int .i64 r.ki) := (BoxAt.cell XB.out 10).trans rfl
                         clear kL
                         have kL : v20.cell? ⟨b2, of2 + k * 5 + 2, none⟩ = some (.int .i64 f.li) := ((HB.out.cell (p := ⟨b2, of2 + k * 5 + 2, none⟩) hcw).trans HFl.out)
                         clear b h z hfl FL18)
                      | (have hfl := FL19.out
                         refine wpList_store_whole rfl 57 _ _ rfl rfl v19.heap.size rfl (Px.cells y) rfl _ _ YB.out rfl Try.infoPx (Px.one _) ?_
                         intro v21 b g z
                         have hsv21 : v20.heap.size ≤ v21.heap.size := by omega
                         have HV := hid (HV.out.trans (grown_below g (by omega) (by omega)))
                         have YB := hid (show BoxAt v21 v19.heap.size 57 (Px.cells y).toArray from b)
                         have CB := hid (CB.out.grown g (fun e => by have := Option.some.inj e; omega))
                         have PB := hid (PB.out.grown g (fun e => by have := Option.some.inj e; omega))
                         have RB := hid (RB.out.grown g (fun e => by have := Option.some.inj e; omega))
                         have XB := hid (XB.out.grown g (fun e => by have := Option.some.inj e; omega))
                         have HB := hid (HB.out.trans (grown_below g (by omega) (by omega)))
                         clear kCB2
                         have kCB2 : v21.cell? ⟨w.heap.size, 2, none⟩ = some (.slice (some ⟨b2, of2, none⟩) M cpc) := (BoxAt.cell CB.out 2).trans (by show some qc.v2.val = _; rw [HCv.out])
                         clear kPB4
                         have kPB4 : v21.cell? ⟨v1.heap.size, 4, none⟩ = some (.slice (some ⟨b3, of3, none⟩) N cp3) := (BoxAt.cell PB.out 4).trans (by show some q2.pr.val = _; rw [HV3.out])
                         clear kXB0
                         have kXB0 : v21.cell? ⟨wr.heap.size, 0, none⟩ = some (.int .i64 r.st) := (BoxAt.cell XB.out 0).trans rfl
                         clear kXB9
                         have kXB9 : v21.cell? ⟨wr.heap.size, 9, none⟩ = some (.int .i64 r.un) := (BoxAt.cell XB.out 9).trans rfl
                         clear kXB10
                         have kXB10 : v21.cell? ⟨wr.heap.size, 10, none⟩ = some (.int .i64 r.ki) := (BoxAt.cell XB.out 10).trans rfl
                         clear kL
                         have kL : v21.cell? ⟨b2, of2 + k * 5 + 2, none⟩ = some (.int .i64 f.li) := ((HB.out.cell (p := ⟨b2, of2 + k * 5 + 2, none⟩) hcw).trans HFl.out)
                         clear b g z hfl FL19)
                      | (have hfl := FL20.out
                         refine wpList_store_box rfl 3 _ _ rfl rfl v19.heap.size 12 (.int .i64 (-1)) rfl rfl rfl rfl (by kernel_rfl) _ _ YB.out (by simp [Px.cells]) ?_
                         intro v22 b g z
                         have hsv22 : v21.heap.size ≤ v22.heap.size := by omega
                         have HV := hid (HV.out.trans (grown_below g (by omega) (by omega)))
                         have YB := hid (show BoxAt v22 v19.heap.size 57 (Px.cells y1).toArray by rw [← HY1.out]; simpa [Px.cells] using b)
                         have CB := hid (CB.out.grown g (fun e => by have := Option.some.inj e; omega))
                         have PB := hid (PB.out.grown g (fun e => by have := Option.some.inj e; omega))
                         have RB := hid (RB.out.grown g (fun e => by have := Option.some.inj e; omega))
                         have XB := hid (XB.out.grown g (fun e => by have := Option.some.inj e; omega))
                         have HB := hid (HB.out.trans (grown_below g (by omega) (by omega)))
                         clear kCB2
                         have kCB2 : v22.cell? ⟨w.heap.size, 2, none⟩ = some (.slice (some ⟨b2, of2, none⟩) M cpc) := (BoxAt.cell CB.out 2).trans (by show some qc.v2.val = _; rw [HCv.out])
                         clear kPB4
                         have kPB4 : v22.cell? ⟨v1.heap.size, 4, none⟩ = some (.slice (some ⟨b3, of3, none⟩) N cp3) := (BoxAt.cell PB.out 4).trans (by show some q2.pr.val = _; rw [HV3.out])
                         clear kXB0
                         have kXB0 : v22.cell? ⟨wr.heap.size, 0, none⟩ = some (.int .i64 r.st) := (BoxAt.cell XB.out 0).trans rfl
                         clear kXB9
                         have kXB9 : v22.cell? ⟨wr.heap.size, 9, none⟩ = some (.int .i64 r.un) := (BoxAt.cell XB.out 9).trans rfl
                         clear kXB10
                         have kXB10 : v22.cell? ⟨wr.heap.size, 10, none⟩ = some (.int .i64 r.ki) := (BoxAt.cell XB.out 10).trans rfl
                         clear kL
                         have kL : v22.cell? ⟨b2, of2 + k * 5 + 2, none⟩ = some (.int .i64 f.li) := ((HB.out.cell (p := ⟨b2, of2 + k * 5 + 2, none⟩) hcw).trans HFl.out)
                         clear b g z hfl FL20)
                      | (have hfl := FL21.out
                         refine wpList_store_box rfl 3 _ _ rfl rfl v19.heap.size 12 (.int .i64 (wrap64 (now + f.li))) rfl rfl rfl rfl (by kernel_rfl) _ _ YB.out (by simp [Px.cells]) ?_
                         intro v23 b g z
                         have hsv23 : v22.heap.size ≤ v23.heap.size := by omega
                         have HV := hid (HV.out.trans (grown_below g (by omega) (by omega)))
                         have YB := hid (show BoxAt v23 v19.heap.size 57 (Px.cells y2).toArray by rw [← HY2.out]; simpa [Px.cells] using b)
                         have CB := hid (CB.out.grown g (fun e => by have := Option.some.inj e; omega))
                         have PB := hid (PB.out.grown g (fun e => by have := Option.some.inj e; omega))
                         have RB := hid (RB.out.grown g (fun e => by have := Option.some.inj e; omega))
                         have XB := hid (XB.out.grown g (fun e => by have := Option.some.inj e; omega))
                         have HB := hid (HB.out.trans (grown_below g (by omega) (by omega)))
                         clear kCB2
                         have kCB2 : v23.cell? ⟨w.heap.size, 2, none⟩ = some (.slice (some ⟨b2, of2, none⟩) M cpc) := (BoxAt.cell CB.out 2).trans (by show some qc.v2.val = _; rw [HCv.out])
                         clear kPB4
                         have kPB4 : v23.cell? ⟨v1.heap.size, 4, none⟩ = some (.slice (some ⟨b3, of3, none⟩) N cp3) := (BoxAt.cell PB.out 4).trans (by show some q2.pr.val = _; rw [HV3.out])
                         clear kXB0
                         have kXB0 : v23.cell? ⟨wr.heap.size, 0, none⟩ = some (.int .i64 r.st) := (BoxAt.cell XB.out 0).trans rfl
                         clear kXB9
                         have kXB9 : v23.cell? ⟨wr.heap.size, 9, none⟩ = some (.int .i64 r.un) := (BoxAt.cell XB.out 9).trans rfl
                         clear kXB10
                         have kXB10 : v23.cell? ⟨wr.heap.size, 10, none⟩ = some (.int .i64 r.ki) := (BoxAt.cell XB.out 10).trans rfl
                         clear kL
                         have kL : v23.cell? ⟨b2, of2 + k * 5 + 2, none⟩ = some (.int .i64 f.li) := ((HB.out.cell (p := ⟨b2, of2 + k * 5 + 2, none⟩) hcw).trans HFl.out)
                         clear b g z hfl FL21)
                      | fail)
                    obtain ⟨y3, hy3⟩ : ∃ x : Px, { y2 with ne := wrap64 (r.un + f.pe) } = x := ⟨_, rfl⟩
                    have HY3 := hid hy3
                    clear hy3
                    have HV := hid (HV.out.trans ((Below.refl v23.heap.size v23).drew.mono HV.out.size))
                    have CB := hid (BoxAt.drew CB.out)
                    have PB := hid (BoxAt.drew PB.out)
                    have RB := hid (BoxAt.drew RB.out)
                    have XB := hid (BoxAt.drew XB.out)
                    have YB := hid (BoxAt.drew YB.out)
                    have HB := hid HB.out.drew
                    have hws : IntKind.i64.wrap (r.un + f.pe) = wrap64 (r.un + f.pe) := by unfold wrap64; exact IntKind.wrap_i64 _
                    have hyc : w.heap.size ≠ v19.heap.size := by omega
                    have hyx : wr.heap.size ≠ v19.heap.size := by omega
                    have hyp : v1.heap.size ≠ v19.heap.size := by omega
                    have hyr : v2.heap.size ≠ v19.heap.size := by omega
                    have hyz : v19.heap.size ≤ v19.heap.size := by omega
                    have hyw : w.heap.size ≤ v19.heap.size := by omega
                    clear kCB2 kL kPB4 kXB0 kXB10 kXB9
                    refine wp_region_held_drew (S := (fun W => W.cell? ⟨wr.heap.size, 9, none⟩ = some (.int .i64 r.un) ∧ W.cell? ⟨w.heap.size, 2, none⟩ = some (.slice (some ⟨b2, of2, none⟩) M cpc) ∧ W.cell? ⟨b2, of2 + k * 5 + 1, none⟩ = some (.int .i64 f.pe))) (by kernel_rfl) (⟨(BoxAt.cell XB.out 9).trans rfl, (BoxAt.cell CB.out 2).trans (by show some qc.v2.val = _; rw [HCv.out]), (HB.out.cell (p := ⟨b2, of2 + k * 5 + 1, none⟩) hcw).trans HFp.out⟩) (fun hHeld => ?_)
                    refine wpAnyH_take (i := 0) (oi := { dst := some 86, op := Op.fieldAddr 57 (Operand.tmp 8) 5, type := 0, pos := "ref.go:36", after := #[], guard := none }) (v := ?v301) rfl (by kernel_rfl) (by kernel_rfl) (by kernel_rfl) (fun _ _ _ h => h) (Or.inl ⟨by rfl, ?hy301⟩) (by assumption) ?rest301
                    case hy301 => (intro W hSw; obtain ⟨s0, s1, s2⟩ := hSw; go_simp; (try simp only [hws]); try with_reducible rfl)
                    simp only [Act.put, List.setIfInBounds_toArray, List.set_cons_zero, List.set_cons_succ]
                    refine wpAnyH_take (i := 1) (oi := { dst := some 87, op := Op.load 3 (Operand.tmp 86), type := 3, pos := "ref.go:36", after := #[{ on := 0, ground := Ground.data }], guard := none }) (v := ?v302) rfl (by kernel_rfl) (by kernel_rfl) (by kernel_rfl) (fun _ _ _ h => h) (Or.inl ⟨by rfl, ?hy302⟩) (by assumption) ?rest302
                    case hy302 => (intro W hSw; obtain ⟨s0, s1, s2⟩ := hSw; go_simp; (try simp only [hws]); try with_reducible rfl)
                    simp only [Act.put, List.setIfInBounds_toArray, List.set_cons_zero, List.set_cons_succ]
                    refine wpAnyH_take (i := 2) (oi := { dst := some 88, op := Op.fieldAddr 28 (Operand.tmp 3) 2, type := 0, pos := "ref.go:36", after := #[], guard := none }) (v := ?v303) rfl (by kernel_rfl) (by kernel_rfl) (by kernel_rfl) (fun _ _ _ h => h) (Or.inl ⟨by rfl, ?hy303⟩) (by assumption) ?rest303
                    case hy303 => (intro W hSw; obtain ⟨s0, s1, s2⟩ := hSw; go_simp; (try simp only [hws]); try with_reducible rfl)
                    simp only [Act.put, List.setIfInBounds_toArray, List.set_cons_zero, List.set_cons_succ]
                    refine wpAnyH_take (i := 3) (oi := { dst := some 89, op := Op.load 23 (Operand.tmp 88), type := 23, pos := "ref.go:36", after := #[{ on := 2, ground := Ground.data }], guard := none }) (v := ?v304) rfl (by kernel_rfl) (by kernel_rfl) (by kernel_rfl) (fun _ _ _ h => h) (Or.inl ⟨by rfl, ?hy304⟩) (by assumption) ?rest304
                    case hy304 => (intro W hSw; obtain ⟨s0, s1, s2⟩ := hSw; go_simp; (try simp only [hws]); try with_reducible rfl)
                    simp only [Act.put, List.setIfInBounds_toArray, List.set_cons_zero, List.set_cons_succ]
                    refine wpAnyH_take (i := 4) (oi := { dst := some 90, op := Op.move (Operand.tmp 7), type := 3, pos := "ref.go:36", after := #[], guard := none }) (v := ?v305) rfl (by kernel_rfl) (by kernel_rfl) (by kernel_rfl) (fun _ _ _ h => h) (Or.inl ⟨by rfl, ?hy305⟩) (by assumption) ?rest305
                    case hy305 => (intro W hSw; obtain ⟨s0, s1, s2⟩ := hSw; go_simp; (try simp only [hws]); try with_reducible rfl)
                    simp only [Act.put, List.setIfInBounds_toArray, List.set_cons_zero, List.set_cons_succ]
                    refine wpAnyH_take (i := 5) (oi := { dst := some 91, op := Op.indexAddr 23 (Operand.tmp 89) (Operand.tmp 90), type := 0, pos := "ref.go:36", after := #[{ on := 3, ground := Ground.data }, { on := 4, ground := Ground.data }], guard := none }) (v := ?v306) rfl (by kernel_rfl) (by kernel_rfl) (by kernel_rfl) (fun _ _ _ h => h) (Or.inl ⟨by rfl, ?hy306⟩) (by assumption) ?rest306
                    case hy306 => (intro W hSw; obtain ⟨s0, s1, s2⟩ := hSw; go_simp; (try simp only [hws]); try with_reducible rfl)
                    simp only [Act.put, List.setIfInBounds_toArray, List.set_cons_zero, List.set_cons_succ]
                    refine wpAnyH_take (i := 6) (oi := { dst := some 92, op := Op.fieldAddr 60 (Operand.tmp 91) 1, type := 0, pos := "ref.go:36", after := #[{ on := 5, ground := Ground.data }], guard := none }) (v := ?v307) rfl (by kernel_rfl) (by kernel_rfl) (by kernel_rfl) (fun _ _ _ h => h) (Or.inl ⟨by rfl, ?hy307⟩) (by assumption) ?rest307
                    case hy307 => (intro W hSw; obtain ⟨s0, s1, s2⟩ := hSw; go_simp; (try simp only [hws]); try with_reducible rfl)
                    simp only [Act.put, List.setIfInBounds_toArray, List.set_cons_zero, List.set_cons_succ]
                    refine wpAnyH_take (i := 7) (oi := { dst := some 93, op := Op.load 3 (Operand.tmp 92), type := 3, pos := "ref.go:36", after := #[{ on := 6, ground := Ground.data }], guard := none }) (v := ?v308) rfl (by kernel_rfl) (by kernel_rfl) (by kernel_rfl) (fun _ _ _ h => h) (Or.inl ⟨by rfl, ?hy308⟩) (by assumption) ?rest308
                    case hy308 => (intro W hSw; obtain ⟨s0, s1, s2⟩ := hSw; go_simp; (try simp only [hws]); try with_reducible rfl)
                    simp only [Act.put, List.setIfInBounds_toArray, List.set_cons_zero, List.set_cons_succ]
                    refine wpAnyH_take (i := 8) (oi := { dst := some 94, op := Op.binOp BinOp.add 3 (Operand.tmp 87) (Operand.tmp 93) 3, type := 3, pos := "ref.go:36", after := #[{ on := 1, ground := Ground.data }, { on := 7, ground := Ground.data }], guard := none }) (v := ?v309) rfl (by kernel_rfl) (by kernel_rfl) (by kernel_rfl) (fun _ _ _ h => h) (Or.inl ⟨by rfl, ?hy309⟩) (by assumption) ?rest309
                    case hy309 => (intro W hSw; obtain ⟨s0, s1, s2⟩ := hSw; go_simp; (try simp only [hws]); try with_reducible rfl)
                    simp only [Act.put, List.setIfInBounds_toArray, List.set_cons_zero, List.set_cons_succ]
                    refine wpAnyH_take (i := 9) (oi := { dst := some 95, op := Op.fieldAddr 57 (Operand.tmp 10) 9, type := 0, pos := "ref.go:36", after := #[{ on := 0, ground := Ground.phase }, { on := 1, ground := Ground.phase }, { on := 2, ground := Ground.phase }, { on := 3, ground := Ground.phase }, { on := 4, ground := Ground.phase }, { on := 5, ground := Ground.phase }, { on := 6, ground := Ground.phase }, { on := 7, ground := Ground.phase }, { on := 8, ground := Ground.phase }], guard := none }) (v := ?v310) rfl (by kernel_rfl) (by kernel_rfl) (by kernel_rfl) (fun _ _ _ h => h) (Or.inl ⟨by rfl, ?hy310⟩) (by assumption) ?rest310
                    case hy310 => (intro W hSw; obtain ⟨s0, s1, s2⟩ := hSw; go_simp; (try simp only [hws]); try with_reducible rfl)
                    simp only [Act.put, List.setIfInBounds_toArray, List.set_cons_zero, List.set_cons_succ]
                    refine wpAnyH_ready (rs := [10]) (by kernel_rfl) (by simp) (AllReadyH.cons (o := { dst := none, op := Op.store 3 (Operand.tmp 95) (Operand.tmp 94), type := 0, pos := "ref.go:36", after := #[{ on := 9, ground := Ground.data }, { on := 8, ground := Ground.data }, { on := 0, ground := Ground.phase }, { on := 1, ground := Ground.phase }, { on := 2, ground := Ground.phase }, { on := 3, ground := Ground.phase }, { on := 4, ground := Ground.phase }, { on := 5, ground := Ground.phase }, { on := 6, ground := Ground.phase }, { on := 7, ground := Ground.phase }, { on := 8, ground := Ground.phase }], guard := none }) rfl (fun K311 hK311 => ?_) AllReadyH.nil)
                    refine wp_store_box 3 _ _ rfl v19.heap.size 13 (.int .i64 (wrap64 (r.un + f.pe))) rfl rfl rfl rfl (by kernel_rfl) _ _ YB.out (by simp [Px.cells]) ?_
                    intro U b gr hz
                    have YB := hid (show BoxAt U v19.heap.size 57 (Px.cells y3).toArray by rw [← HY3.out]; simpa [Px.cells] using b)
                    have XB := hid (XB.out.grown gr (fun e => hyx (Option.some.inj e)))
                    have CB := hid (CB.out.grown gr (fun e => hyc (Option.some.inj e)))
                    have PB := hid (PB.out.grown gr (fun e => hyp (Option.some.inj e)))
                    have RB := hid (RB.out.grown gr (fun e => hyr (Option.some.inj e)))
                    have HV := hid (HV.out.trans (grown_below gr hyz (by have := HV.out.size; omega)))
                    have HB := hid (HB.out.trans (grown_below gr hyw (by have := HB.out.size; omega)))
                    have hsU : v23.heap.size ≤ U.heap.size := Nat.le_of_eq hz.symm
                    clear b gr hz
                    refine hK311.out _ _ (⟨(BoxAt.cell XB.out 9).trans rfl, (BoxAt.cell CB.out 2).trans (by show some qc.v2.val = _; rw [HCv.out]), (HB.out.cell (p := ⟨b2, of2 + k * 5 + 1, none⟩) hcw).trans HFp.out⟩) (fun hHeld311 => ?_)
                    clear hK311 K311
                    try simp only [Act.put]
                    refine wpAnyH_done (by kernel_rfl) ?_ _
                    clear hHeld hHeld311 hyc hyx hyp hyr hws
                    have HZ := hid (HZ0.out.below (by omega) HV.out)
                    clear HZ0 HV
                    go_wp2_with (first
                      | (with_reducible refine wpList_dst 96 rfl ?_
                         refine wpList_load_box rfl 39 _ rfl v1.heap.size rfl _ _ PB.out _ Try.underlying39 Try.infoPa ?_)
                      | (with_reducible refine wpList_dst 98 rfl ?_
                         refine wpList_load_box rfl 57 _ rfl v19.heap.size rfl _ _ YB.out _ Try.underlying57 Try.infoPx ?_)
                      | fail)
                    refine (rwith11_z k y3 HZ.out (by omega) (by rw [HDl.out]; exact hN9) (by rw [HDl.out]; exact HLt.out)).mono ?_
                    rintro e v24 ⟨q3, rfl, hz, hb⟩
                    have CB := hid (CB.out.belowAll hb)
                    have PB := hid (PB.out.belowAll hb)
                    have RB := hid (RB.out.belowAll hb)
                    have XB := hid (XB.out.belowAll hb)
                    have YB := hid (YB.out.belowAll hb)
                    have HZ := hid hz
                    have HB := hid (HB.out.trans (hb.mono HB.out.size))
                    have hsv24 : U.heap.size ≤ v24.heap.size := hb.size
                    clear hb
                    have FL22 := hid trivial
                    go_wp2_with (first
                      | (have hfl := FL22.out
                         refine wpList_store_whole rfl 39 _ _ rfl rfl v1.heap.size rfl (PaV.cells q3) rfl _ _ PB.out rfl Try.infoPa (PaV.one _) ?_
                         intro v25 b g z
                         have hsv25 : v24.heap.size ≤ v25.heap.size := by omega
                         have HZ := hid (HZ.out.put (by omega) (by omega) g PB.out b)
                         have PB := hid (show BoxAt v25 v1.heap.size 39 (PaV.cells q3).toArray from b)
                         have CB := hid (CB.out.grown g (fun e => by have := Option.some.inj e; omega))
                         have RB := hid (RB.out.grown g (fun e => by have := Option.some.inj e; omega))
                         have XB := hid (XB.out.grown g (fun e => by have := Option.some.inj e; omega))
                         have YB := hid (YB.out.grown g (fun e => by have := Option.some.inj e; omega))
                         have HB := hid (HB.out.trans (grown_below g (by omega) (by omega)))
                         clear b g z hfl FL22)
                      | fail)
                    have HE := hid (show { D.pr.getD k Px.zero with du := if 0 < (cc.pc.getD k Pc.zero).li then wrap64 (now + (cc.pc.getD k Pc.zero).li) else -1, ne := wrap64 (r.un + (cc.pc.getD k Pc.zero).pe) } = y3 from by rw [HY.out, HF.out, if_pos HLi.out, ← HY3.out, ← HY2.out, ← HY1.out])
                    go_roundw
                    case rel => exact ⟨k + 1, q3, by have := HLt.out; omega, by go_num, (show Hid (PaZ n _ _ (wakeS cc c now (k + 1))) from by rw [show wakeS cc c now (k + 1) = wakeOne cc now k C from by rw [← HCk.out]; rfl, wake_rel HR.out HOv.out HD.out ⟨HK2.out, HKc.out⟩ HE.out]; exact HZ), CB, PB, RB, HB, by omega⟩
                    case measure => have := HLt.out; simp [intOf]; omega
                  · have tl : decide (0 < f.li) = false := decide_eq_false hli
                    have HLi := hid hli
                    clear hli
                    have HZ0 := HZ
                    have HV := hid (Below.refl v19.heap.size v19)
                    clear HZ
                    obtain ⟨y1, hy1⟩ : ∃ x : Px, { y with du := -1 } = x := ⟨_, rfl⟩
                    have HY1 := hid hy1
                    clear hy1
                    have FL23 := hid trivial
                    have FL24 := hid trivial
                    have FL25 := hid trivial
                    go_wp2_with (first
                      | (refine wpList_load_px rfl _ rfl b3 (of3 + k * 18) rfl y HP3.out ?_)
                      | (have hfl := FL23.out
                         refine wpList_new rfl 57 rfl _ Try.zeroPx ?_
                         intro v26 b h z
                         have YB := hid (show BoxAt v26 v19.heap.size 57 (Px.cells Px.zero).toArray from b)
                         have CB := hid (CB.out.belowAll h)
                         have PB := hid (PB.out.belowAll h)
                         have RB := hid (RB.out.belowAll h)
                         have XB := hid (XB.out.belowAll h)
                         have HV := hid (HV.out.trans (h.mono HV.out.size))
                         have HB := hid (HB.out.trans (h.mono HB.out.size))
                         have hsv26 : v19.heap.size + 1 ≤ v26.heap.size := by omega
                         clear kCB2
                         have kCB2 : v26.cell? ⟨w.heap.size, 2, none⟩ = some (.slice (some ⟨b2, of2, none⟩) M cpc) := (BoxAt.cell CB.out 2).trans (by show some qc.v2.val = _; rw [HCv.out])
                         clear kPB4
                         have kPB4 : v26.cell? ⟨v1.heap.size, 4, none⟩ = some (.slice (some ⟨b3, of3, none⟩) N cp3) := (BoxAt.cell PB.out 4).trans (by show some q2.pr.val = _; rw [HV3.out])
                         clear kXB0
                         have kXB0 : v26.cell? ⟨wr.heap.size, 0, none⟩ = some (.int .i64 r.st) := (BoxAt.cell XB.out 0).trans rfl
                         clear kXB9
                         have kXB9 : v26.cell? ⟨wr.heap.size, 9, none⟩ = some (.int .i64 r.un) := (BoxAt.cell XB.out 9).trans rfl
                         clear kXB10
                         have kXB10 : v26.cell? ⟨wr.heap.size, 10, none⟩ = some (.int .i64 r.ki) := (BoxAt.cell XB.out 10).trans rfl
                         clear kL
                         have kL : v26.cell? ⟨b2, of2 + k * 5 + 2, none⟩ = some (.int .i64 f.li) := ((HB.out.cell (p := ⟨b2, of2 + k * 5 + 2, none⟩) hcw).trans HFl.out)
                         clear b h z hfl FL23)
                      | (have hfl := FL24.out
                         refine wpList_store_whole rfl 57 _ _ rfl rfl v19.heap.size rfl (Px.cells y) rfl _ _ YB.out rfl Try.infoPx (Px.one _) ?_
                         intro v27 b g z
                         have hsv27 : v26.heap.size ≤ v27.heap.size := by omega
                         have HV := hid (HV.out.trans (grown_below g (by omega) (by omega)))
                         have YB := hid (show BoxAt v27 v19.heap.size 57 (Px.cells y).toArray from b)
                         have CB := hid (CB.out.grown g (fun e => by have := Option.some.inj e; omega))
                         have PB := hid (PB.out.grown g (fun e => by have := Option.some.inj e; omega))
                         have RB := hid (RB.out.grown g (fun e => by have := Option.some.inj e; omega))
                         have XB := hid (XB.out.grown g (fun e => by have := Option.some.inj e; omega))
                         have HB := hid (HB.out.trans (grown_below g (by omega) (by omega)))
                         clear kCB2
                         have kCB2 : v27.cell? ⟨w.heap.size, 2, none⟩ = some (.slice (some ⟨b2, of2, none⟩) M cpc) := (BoxAt.cell CB.out 2).trans (by show some qc.v2.val = _; rw [HCv.out])
                         clear kPB4
                         have kPB4 : v27.cell? ⟨v1.heap.size, 4, none⟩ = some (.slice (some ⟨b3, of3, none⟩) N cp3) := (BoxAt.cell PB.out 4).trans (by show some q2.pr.val = _; rw [HV3.out])
                         clear kXB0
                         have kXB0 : v27.cell? ⟨wr.heap.size, 0, none⟩ = some (.int .i64 r.st) := (BoxAt.cell XB.out 0).trans rfl
                         clear kXB9
                         have kXB9 : v27.cell? ⟨wr.heap.size, 9, none⟩ = some (.int .i64 r.un) := (BoxAt.cell XB.out 9).trans rfl
                         clear kXB10
                         have kXB10 : v27.cell? ⟨wr.heap.size, 10, none⟩ = some (.int .i64 r.ki) := (BoxAt.cell XB.out 10).trans rfl
                         clear kL
                         have kL : v27.cell? ⟨b2, of2 + k * 5 + 2, none⟩ = some (.int .i64 f.li) := ((HB.out.cell (p := ⟨b2, of2 + k * 5 + 2, none⟩) hcw).trans HFl.out)
                         clear b g z hfl FL24)
                      | (have hfl := FL25.out
                         refine wpList_store_box rfl 3 _ _ rfl rfl v19.heap.size 12 (.int .i64 (-1)) rfl rfl rfl rfl (by kernel_rfl) _ _ YB.out (by simp [Px.cells]) ?_
                         intro v28 b g z
                         have hsv28 : v27.heap.size ≤ v28.heap.size := by omega
                         have HV := hid (HV.out.trans (grown_below g (by omega) (by omega)))
                         have YB := hid (show BoxAt v28 v19.heap.size 57 (Px.cells y1).toArray by rw [← HY1.out]; simpa [Px.cells] using b)
                         have CB := hid (CB.out.grown g (fun e => by have := Option.some.inj e; omega))
                         have PB := hid (PB.out.grown g (fun e => by have := Option.some.inj e; omega))
                         have RB := hid (RB.out.grown g (fun e => by have := Option.some.inj e; omega))
                         have XB := hid (XB.out.grown g (fun e => by have := Option.some.inj e; omega))
                         have HB := hid (HB.out.trans (grown_below g (by omega) (by omega)))
                         clear kCB2
                         have kCB2 : v28.cell? ⟨w.heap.size, 2, none⟩ = some (.slice (some ⟨b2, of2, none⟩) M cpc) := (BoxAt.cell CB.out 2).trans (by show some qc.v2.val = _; rw [HCv.out])
                         clear kPB4
                         have kPB4 : v28.cell? ⟨v1.heap.size, 4, none⟩ = some (.slice (some ⟨b3, of3, none⟩) N cp3) := (BoxAt.cell PB.out 4).trans (by show some q2.pr.val = _; rw [HV3.out])
                         clear kXB0
                         have kXB0 : v28.cell? ⟨wr.heap.size, 0, none⟩ = some (.int .i64 r.st) := (BoxAt.cell XB.out 0).trans rfl
                         clear kXB9
                         have kXB9 : v28.cell? ⟨wr.heap.size, 9, none⟩ = some (.int .i64 r.un) := (BoxAt.cell XB.out 9).trans rfl
                         clear kXB10
                         have kXB10 : v28.cell? ⟨wr.heap.size, 10, none⟩ = some (.int .i64 r.ki) := (BoxAt.cell XB.out 10).trans rfl
                         clear kL
                         have kL : v28.cell? ⟨b2, of2 + k * 5 + 2, none⟩ = some (.int .i64 f.li) := ((HB.out.cell (p := ⟨b2, of2 + k * 5 + 2, none⟩) hcw).trans HFl.out)
                         clear b g z hfl FL25)
                      | fail)
                    obtain ⟨y3, hy3⟩ : ∃ x : Px, { y1 with ne := wrap64 (r.un + f.pe) } = x := ⟨_, rfl⟩
                    have HY3 := hid hy3
                    clear hy3
                    have HV := hid (HV.out.trans ((Below.refl v28.heap.size v28).drew.mono HV.out.size))
                    have CB := hid (BoxAt.drew CB.out)
                    have PB := hid (BoxAt.drew PB.out)
                    have RB := hid (BoxAt.drew RB.out)
                    have XB := hid (BoxAt.drew XB.out)
                    have YB := hid (BoxAt.drew YB.out)
                    have HB := hid HB.out.drew
                    have hws : IntKind.i64.wrap (r.un + f.pe) = wrap64 (r.un + f.pe) := by unfold wrap64; exact IntKind.wrap_i64 _
                    have hyc : w.heap.size ≠ v19.heap.size := by omega
                    have hyx : wr.heap.size ≠ v19.heap.size := by omega
                    have hyp : v1.heap.size ≠ v19.heap.size := by omega
                    have hyr : v2.heap.size ≠ v19.heap.size := by omega
                    have hyz : v19.heap.size ≤ v19.heap.size := by omega
                    have hyw : w.heap.size ≤ v19.heap.size := by omega
                    clear kCB2 kL kPB4 kXB0 kXB10 kXB9
                    refine wp_region_held_drew (S := (fun W => W.cell? ⟨wr.heap.size, 9, none⟩ = some (.int .i64 r.un) ∧ W.cell? ⟨w.heap.size, 2, none⟩ = some (.slice (some ⟨b2, of2, none⟩) M cpc) ∧ W.cell? ⟨b2, of2 + k * 5 + 1, none⟩ = some (.int .i64 f.pe))) (by kernel_rfl) (⟨(BoxAt.cell XB.out 9).trans rfl, (BoxAt.cell CB.out 2).trans (by show some qc.v2.val = _; rw [HCv.out]), (HB.out.cell (p := ⟨b2, of2 + k * 5 + 1, none⟩) hcw).trans HFp.out⟩) (fun hHeld => ?_)
                    refine wpAnyH_take (i := 0) (oi := { dst := some 86, op := Op.fieldAddr 57 (Operand.tmp 8) 5, type := 0, pos := "ref.go:36", after := #[], guard := none }) (v := ?v601) rfl (by kernel_rfl) (by kernel_rfl) (by kernel_rfl) (fun _ _ _ h => h) (Or.inl ⟨by rfl, ?hy601⟩) (by assumption) ?rest601
                    case hy601 => (intro W hSw; obtain ⟨s0, s1, s2⟩ := hSw; go_simp; (try simp only [hws]); try with_reducible rfl)
                    simp only [Act.put, List.setIfInBounds_toArray, List.set_cons_zero, List.set_cons_succ]
                    refine wpAnyH_take (i := 1) (oi := { dst := some 87, op := Op.load 3 (Operand.tmp 86), type := 3, pos := "ref.go:36", after := #[{ on := 0, ground := Ground.data }], guard := none }) (v := ?v602) rfl (by kernel_rfl) (by kernel_rfl) (by kernel_rfl) (fun _ _ _ h => h) (Or.inl ⟨by rfl, ?hy602⟩) (by assumption) ?rest602
                    case hy602 => (intro W hSw; obtain ⟨s0, s1, s2⟩ := hSw; go_simp; (try simp only [hws]); try with_reducible rfl)
                    simp only [Act.put, List.setIfInBounds_toArray, List.set_cons_zero, List.set_cons_succ]
                    refine wpAnyH_take (i := 2) (oi := { dst := some 88, op := Op.fieldAddr 28 (Operand.tmp 3) 2, type := 0, pos := "ref.go:36", after := #[], guard := none }) (v := ?v603) rfl (by kernel_rfl) (by kernel_rfl) (by kernel_rfl) (fun _ _ _ h => h) (Or.inl ⟨by rfl, ?hy603⟩) (by assumption) ?rest603
                    case hy603 => (intro W hSw; obtain ⟨s0, s1, s2⟩ := hSw; go_simp; (try simp only [hws]); try with_reducible rfl)
                    simp only [Act.put, List.setIfInBounds_toArray, List.set_cons_zero, List.set_cons_succ]
                    refine wpAnyH_take (i := 3) (oi := { dst := some 89, op := Op.load 23 (Operand.tmp 88), type := 23, pos := "ref.go:36", after := #[{ on := 2, ground := Ground.data }], guard := none }) (v := ?v604) rfl (by kernel_rfl) (by kernel_rfl) (by kernel_rfl) (fun _ _ _ h => h) (Or.inl ⟨by rfl, ?hy604⟩) (by assumption) ?rest604
                    case hy604 => (intro W hSw; obtain ⟨s0, s1, s2⟩ := hSw; go_simp; (try simp only [hws]); try with_reducible rfl)
                    simp only [Act.put, List.setIfInBounds_toArray, List.set_cons_zero, List.set_cons_succ]
                    refine wpAnyH_take (i := 4) (oi := { dst := some 90, op := Op.move (Operand.tmp 7), type := 3, pos := "ref.go:36", after := #[], guard := none }) (v := ?v605) rfl (by kernel_rfl) (by kernel_rfl) (by kernel_rfl) (fun _ _ _ h => h) (Or.inl ⟨by rfl, ?hy605⟩) (by assumption) ?rest605
                    case hy605 => (intro W hSw; obtain ⟨s0, s1, s2⟩ := hSw; go_simp; (try simp only [hws]); try with_reducible rfl)
                    simp only [Act.put, List.setIfInBounds_toArray, List.set_cons_zero, List.set_cons_succ]
                    refine wpAnyH_take (i := 5) (oi := { dst := some 91, op := Op.indexAddr 23 (Operand.tmp 89) (Operand.tmp 90), type := 0, pos := "ref.go:36", after := #[{ on := 3, ground := Ground.data }, { on := 4, ground := Ground.data }], guard := none }) (v := ?v606) rfl (by kernel_rfl) (by kernel_rfl) (by kernel_rfl) (fun _ _ _ h => h) (Or.inl ⟨by rfl, ?hy606⟩) (by assumption) ?rest606
                    case hy606 => (intro W hSw; obtain ⟨s0, s1, s2⟩ := hSw; go_simp; (try simp only [hws]); try with_reducible rfl)
                    simp only [Act.put, List.setIfInBounds_toArray, List.set_cons_zero, List.set_cons_succ]
                    refine wpAnyH_take (i := 6) (oi := { dst := some 92, op := Op.fieldAddr 60 (Operand.tmp 91) 1, type := 0, pos := "ref.go:36", after := #[{ on := 5, ground := Ground.data }], guard := none }) (v := ?v607) rfl (by kernel_rfl) (by kernel_rfl) (by kernel_rfl) (fun _ _ _ h => h) (Or.inl ⟨by rfl, ?hy607⟩) (by assumption) ?rest607
                    case hy607 => (intro W hSw; obtain ⟨s0, s1, s2⟩ := hSw; go_simp; (try simp only [hws]); try with_reducible rfl)
                    simp only [Act.put, List.setIfInBounds_toArray, List.set_cons_zero, List.set_cons_succ]
                    refine wpAnyH_take (i := 7) (oi := { dst := some 93, op := Op.load 3 (Operand.tmp 92), type := 3, pos := "ref.go:36", after := #[{ on := 6, ground := Ground.data }], guard := none }) (v := ?v608) rfl (by kernel_rfl) (by kernel_rfl) (by kernel_rfl) (fun _ _ _ h => h) (Or.inl ⟨by rfl, ?hy608⟩) (by assumption) ?rest608
                    case hy608 => (intro W hSw; obtain ⟨s0, s1, s2⟩ := hSw; go_simp; (try simp only [hws]); try with_reducible rfl)
                    simp only [Act.put, List.setIfInBounds_toArray, List.set_cons_zero, List.set_cons_succ]
                    refine wpAnyH_take (i := 8) (oi := { dst := some 94, op := Op.binOp BinOp.add 3 (Operand.tmp 87) (Operand.tmp 93) 3, type := 3, pos := "ref.go:36", after := #[{ on := 1, ground := Ground.data }, { on := 7, ground := Ground.data }], guard := none }) (v := ?v609) rfl (by kernel_rfl) (by kernel_rfl) (by kernel_rfl) (fun _ _ _ h => h) (Or.inl ⟨by rfl, ?hy609⟩) (by assumption) ?rest609
                    case hy609 => (intro W hSw; obtain ⟨s0, s1, s2⟩ := hSw; go_simp; (try simp only [hws]); try with_reducible rfl)
                    simp only [Act.put, List.setIfInBounds_toArray, List.set_cons_zero, List.set_cons_succ]
                    refine wpAnyH_take (i := 9) (oi := { dst := some 95, op := Op.fieldAddr 57 (Operand.tmp 10) 9, type := 0, pos := "ref.go:36", after := #[{ on := 0, ground := Ground.phase }, { on := 1, ground := Ground.phase }, { on := 2, ground := Ground.phase }, { on := 3, ground := Ground.phase }, { on := 4, ground := Ground.phase }, { on := 5, ground := Ground.phase }, { on := 6, ground := Ground.phase }, { on := 7, ground := Ground.phase }, { on := 8, ground := Ground.phase }], guard := none }) (v := ?v610) rfl (by kernel_rfl) (by kernel_rfl) (by kernel_rfl) (fun _ _ _ h => h) (Or.inl ⟨by rfl, ?hy610⟩) (by assumption) ?rest610
                    case hy610 => (intro W hSw; obtain ⟨s0, s1, s2⟩ := hSw; go_simp; (try simp only [hws]); try with_reducible rfl)
                    simp only [Act.put, List.setIfInBounds_toArray, List.set_cons_zero, List.set_cons_succ]
                    refine wpAnyH_ready (rs := [10]) (by kernel_rfl) (by simp) (AllReadyH.cons (o := { dst := none, op := Op.store 3 (Operand.tmp 95) (Operand.tmp 94), type := 0, pos := "ref.go:36", after := #[{ on := 9, ground := Ground.data }, { on := 8, ground := Ground.data }, { on := 0, ground := Ground.phase }, { on := 1, ground := Ground.phase }, { on := 2, ground := Ground.phase }, { on := 3, ground := Ground.phase }, { on := 4, ground := Ground.phase }, { on := 5, ground := Ground.phase }, { on := 6, ground := Ground.phase }, { on := 7, ground := Ground.phase }, { on := 8, ground := Ground.phase }], guard := none }) rfl (fun K611 hK611 => ?_) AllReadyH.nil)
                    refine wp_store_box 3 _ _ rfl v19.heap.size 13 (.int .i64 (wrap64 (r.un + f.pe))) rfl rfl rfl rfl (by kernel_rfl) _ _ YB.out (by simp [Px.cells]) ?_
                    intro U b gr hz
                    have YB := hid (show BoxAt U v19.heap.size 57 (Px.cells y3).toArray by rw [← HY3.out]; simpa [Px.cells] using b)
                    have XB := hid (XB.out.grown gr (fun e => hyx (Option.some.inj e)))
                    have CB := hid (CB.out.grown gr (fun e => hyc (Option.some.inj e)))
                    have PB := hid (PB.out.grown gr (fun e => hyp (Option.some.inj e)))
                    have RB := hid (RB.out.grown gr (fun e => hyr (Option.some.inj e)))
                    have HV := hid (HV.out.trans (grown_below gr hyz (by have := HV.out.size; omega)))
                    have HB := hid (HB.out.trans (grown_below gr hyw (by have := HB.out.size; omega)))
                    have hsU : v28.heap.size ≤ U.heap.size := Nat.le_of_eq hz.symm
                    clear b gr hz
                    refine hK611.out _ _ (⟨(BoxAt.cell XB.out 9).trans rfl, (BoxAt.cell CB.out 2).trans (by show some qc.v2.val = _; rw [HCv.out]), (HB.out.cell (p := ⟨b2, of2 + k * 5 + 1, none⟩) hcw).trans HFp.out⟩) (fun hHeld611 => ?_)
                    clear hK611 K611
                    try simp only [Act.put]
                    refine wpAnyH_done (by kernel_rfl) ?_ _
                    clear hHeld hHeld611 hyc hyx hyp hyr hws
                    have HZ := hid (HZ0.out.below (by omega) HV.out)
                    clear HZ0 HV
                    go_wp2_with (first
                      | (with_reducible refine wpList_dst 96 rfl ?_
                         refine wpList_load_box rfl 39 _ rfl v1.heap.size rfl _ _ PB.out _ Try.underlying39 Try.infoPa ?_)
                      | (with_reducible refine wpList_dst 98 rfl ?_
                         refine wpList_load_box rfl 57 _ rfl v19.heap.size rfl _ _ YB.out _ Try.underlying57 Try.infoPx ?_)
                      | fail)
                    refine (rwith11_z k y3 HZ.out (by omega) (by rw [HDl.out]; exact hN9) (by rw [HDl.out]; exact HLt.out)).mono ?_
                    rintro e v29 ⟨q3, rfl, hz, hb⟩
                    have CB := hid (CB.out.belowAll hb)
                    have PB := hid (PB.out.belowAll hb)
                    have RB := hid (RB.out.belowAll hb)
                    have XB := hid (XB.out.belowAll hb)
                    have YB := hid (YB.out.belowAll hb)
                    have HZ := hid hz
                    have HB := hid (HB.out.trans (hb.mono HB.out.size))
                    have hsv29 : U.heap.size ≤ v29.heap.size := hb.size
                    clear hb
                    have FL26 := hid trivial
                    go_wp2_with (first
                      | (have hfl := FL26.out
                         refine wpList_store_whole rfl 39 _ _ rfl rfl v1.heap.size rfl (PaV.cells q3) rfl _ _ PB.out rfl Try.infoPa (PaV.one _) ?_
                         intro v30 b g z
                         have hsv30 : v29.heap.size ≤ v30.heap.size := by omega
                         have HZ := hid (HZ.out.put (by omega) (by omega) g PB.out b)
                         have PB := hid (show BoxAt v30 v1.heap.size 39 (PaV.cells q3).toArray from b)
                         have CB := hid (CB.out.grown g (fun e => by have := Option.some.inj e; omega))
                         have RB := hid (RB.out.grown g (fun e => by have := Option.some.inj e; omega))
                         have XB := hid (XB.out.grown g (fun e => by have := Option.some.inj e; omega))
                         have YB := hid (YB.out.grown g (fun e => by have := Option.some.inj e; omega))
                         have HB := hid (HB.out.trans (grown_below g (by omega) (by omega)))
                         clear b g z hfl FL26)
                      | fail)
                    have HE := hid (show { D.pr.getD k Px.zero with du := if 0 < (cc.pc.getD k Pc.zero).li then wrap64 (now + (cc.pc.getD k Pc.zero).li) else -1, ne := wrap64 (r.un + (cc.pc.getD k Pc.zero).pe) } = y3 from by rw [HY.out, HF.out, if_neg (show ¬ 0 < f.li by have := HLi.out; omega), ← HY3.out, ← HY1.out])
                    go_roundw
                    case rel => exact ⟨k + 1, q3, by have := HLt.out; omega, by go_num, (show Hid (PaZ n _ _ (wakeS cc c now (k + 1))) from by rw [show wakeS cc c now (k + 1) = wakeOne cc now k C from by rw [← HCk.out]; rfl, wake_rel HR.out HOv.out HD.out ⟨HK2.out, HKc.out⟩ HE.out]; exact HZ), CB, PB, RB, HB, by omega⟩
                    case measure => have := HLt.out; simp [intOf]; omega
                · have tc : decide ((k : Int) < (M : Int)) = false := decide_eq_false (by omega)
                  have tc2 : decide (k < M) = false := decide_eq_false hkc
                  have hkm : (M : Int) ≤ (k : Int) := by omega
                  have HNr := hid (show ¬ (r.ki = 2 ∧ k < cc.pc.length) from fun h => by have h1 := h.2; rw [HM.out] at h1; omega)
                  clear hkc
                  have kCB2 : v18.cell? ⟨w.heap.size, 2, none⟩ = some (.slice ac M cpc) := (BoxAt.cell CB.out 2).trans (by show some qc.v2.val = _; rw [HCv.out])
                  clear kXB0
                  have kXB0 : v18.cell? ⟨wr.heap.size, 0, none⟩ = some (.int .i64 r.st) := (BoxAt.cell XB.out 0).trans rfl
                  clear kXB9
                  have kXB9 : v18.cell? ⟨wr.heap.size, 9, none⟩ = some (.int .i64 r.un) := (BoxAt.cell XB.out 9).trans rfl
                  clear kXB10
                  have kXB10 : v18.cell? ⟨wr.heap.size, 10, none⟩ = some (.int .i64 r.ki) := (BoxAt.cell XB.out 10).trans rfl
                  have FL27 := hid trivial
                  go_wp2_with (first
                    | (have hfl := FL27.out
                       refine wpList_store_whole rfl 39 _ _ rfl rfl v1.heap.size rfl (PaV.cells q2) rfl _ _ PB.out rfl Try.infoPa (PaV.one _) ?_
                       intro v31 b g z
                       have hsv31 : v18.heap.size ≤ v31.heap.size := by omega
                       have HZ := hid (HZ.out.put (by omega) (by omega) g PB.out b)
                       have PB := hid (show BoxAt v31 v1.heap.size 39 (PaV.cells q2).toArray from b)
                       have CB := hid (CB.out.grown g (fun e => by have := Option.some.inj e; omega))
                       have RB := hid (RB.out.grown g (fun e => by have := Option.some.inj e; omega))
                       have XB := hid (XB.out.grown g (fun e => by have := Option.some.inj e; omega))
                       have HB := hid (HB.out.trans (grown_below g (by omega) (by omega)))
                       clear kCB2
                       have kCB2 : v31.cell? ⟨w.heap.size, 2, none⟩ = some (.slice ac M cpc) := (BoxAt.cell CB.out 2).trans (by show some qc.v2.val = _; rw [HCv.out])
                       clear kXB0
                       have kXB0 : v31.cell? ⟨wr.heap.size, 0, none⟩ = some (.int .i64 r.st) := (BoxAt.cell XB.out 0).trans rfl
                       clear kXB9
                       have kXB9 : v31.cell? ⟨wr.heap.size, 9, none⟩ = some (.int .i64 r.un) := (BoxAt.cell XB.out 9).trans rfl
                       clear kXB10
                       have kXB10 : v31.cell? ⟨wr.heap.size, 10, none⟩ = some (.int .i64 r.ki) := (BoxAt.cell XB.out 10).trans rfl
                       clear b g z hfl FL27)
                    | fail)
                  go_roundw
                  case rel => exact ⟨k + 1, q2, by have := HLt.out; omega, by go_num, (show Hid (PaZ n _ _ (wakeS cc c now (k + 1))) from by rw [show wakeS cc c now (k + 1) = wakeOne cc now k C from by rw [← HCk.out]; rfl, wake_yes HR.out HOv.out HD.out HNr.out]; exact HZ), CB, PB, RB, HB, by omega⟩
                  case measure => have := HLt.out; simp [intOf]; omega
              · have t2 : (r.ki != 2) = true := by simpa using k2
                have t3 : (r.ki == 2) = false := by simpa using k2
                have HTm := hid (show timed r = False from eq_false (fun h => h.elim k1 k2))
                have HNr := hid (show ¬ (r.ki = 2 ∧ k < cc.pc.length) from fun h => k2 h.1)
                clear k1 k2
                have HV := hid (Below.refl wr.heap.size wr)
                have FL28 := hid trivial
                have FL29 := hid trivial
                go_wp2_with (first
                  | (refine wpList_load_px rfl _ rfl b1 (off + k * 18) rfl r HP0.out ?_)
                  | (have hfl := FL28.out
                     refine wpList_new rfl 57 rfl _ Try.zeroPx ?_
                     intro v32 b h z
                     have XB := hid (show BoxAt v32 wr.heap.size 57 (Px.cells Px.zero).toArray from b)
                     have CB := hid (CB.out.belowAll h)
                     have PB := hid (PB.out.belowAll h)
                     have RB := hid (RB.out.belowAll h)
                     have HV := hid (HV.out.trans (h.mono HV.out.size))
                     have HB := hid (HB.out.trans (h.mono HB.out.size))
                     have hsv32 : wr.heap.size + 1 ≤ v32.heap.size := by omega
                     clear kPB4
                     have kPB4 : v32.cell? ⟨v1.heap.size, 4, none⟩ = some (.slice (some ⟨b1, off, none⟩) N cpp) := (BoxAt.cell PB.out 4).trans (by show some p.pr.val = _; rw [HPv.out])
                     clear b h z hfl FL28)
                  | (have hfl := FL29.out
                     refine wpList_store_whole rfl 57 _ _ rfl rfl wr.heap.size rfl (Px.cells r) rfl _ _ XB.out rfl Try.infoPx (Px.one _) ?_
                     intro v33 b g z
                     have hsv33 : v32.heap.size ≤ v33.heap.size := by omega
                     have HV := hid (HV.out.trans (grown_below g (by omega) (by omega)))
                     have XB := hid (show BoxAt v33 wr.heap.size 57 (Px.cells r).toArray from b)
                     have CB := hid (CB.out.grown g (fun e => by have := Option.some.inj e; omega))
                     have PB := hid (PB.out.grown g (fun e => by have := Option.some.inj e; omega))
                     have RB := hid (RB.out.grown g (fun e => by have := Option.some.inj e; omega))
                     have HB := hid (HB.out.trans (grown_below g (by omega) (by omega)))
                     clear kPB4
                     have kPB4 : v33.cell? ⟨v1.heap.size, 4, none⟩ = some (.slice (some ⟨b1, off, none⟩) N cpp) := (BoxAt.cell PB.out 4).trans (by show some p.pr.val = _; rw [HPv.out])
                     have kXB0 : v33.cell? ⟨wr.heap.size, 0, none⟩ = some (.int .i64 r.st) := (BoxAt.cell XB.out 0).trans rfl
                     have kXB9 : v33.cell? ⟨wr.heap.size, 9, none⟩ = some (.int .i64 r.un) := (BoxAt.cell XB.out 9).trans rfl
                     have kXB10 : v33.cell? ⟨wr.heap.size, 10, none⟩ = some (.int .i64 r.ki) := (BoxAt.cell XB.out 10).trans rfl
                     clear b g z hfl FL29
                     refine Hid.out ?_)
                  | fail)
                refine hid ?_
                have HZ := hid (HZ.out.below (by omega) HV.out)
                clear HV kPB4
                have FL30 := hid trivial
                have FL31 := hid trivial
                go_wp2_with (first
                  | (have hfl := FL30.out
                     refine wpList_new rfl 92 rfl _ Try.zeroWk ?_
                     intro v34 b h z
                     have WB := hid (show BoxAt v34 v33.heap.size 92 [.int .i64 0, .int .i64 0, .int .i64 0].toArray from b)
                     have CB := hid (CB.out.belowAll h)
                     have PB := hid (PB.out.belowAll h)
                     have RB := hid (RB.out.belowAll h)
                     have XB := hid (XB.out.belowAll h)
                     have HZ := hid (HZ.out.below (by omega) h)
                     have HB := hid (HB.out.trans (h.mono HB.out.size))
                     have hsv34 : v33.heap.size + 1 ≤ v34.heap.size := by omega
                     clear kXB0
                     have kXB0 : v34.cell? ⟨wr.heap.size, 0, none⟩ = some (.int .i64 r.st) := (BoxAt.cell XB.out 0).trans rfl
                     clear kXB9
                     have kXB9 : v34.cell? ⟨wr.heap.size, 9, none⟩ = some (.int .i64 r.un) := (BoxAt.cell XB.out 9).trans rfl
                     clear kXB10
                     have kXB10 : v34.cell? ⟨wr.heap.size, 10, none⟩ = some (.int .i64 r.ki) := (BoxAt.cell XB.out 10).trans rfl
                     clear b h z hfl FL30)
                  | (have hfl := FL31.out
                     refine wpList_store_whole rfl 92 _ _ rfl rfl v33.heap.size rfl [.int .i64 (k : Int), .int .i64 0, .int .i64 0] rfl _ _ WB.out rfl Try.infoWkC (wk_one _ _ _) ?_
                     intro v35 b g z
                     have hsv35 : v34.heap.size ≤ v35.heap.size := by omega
                     have HZ := hid (HZ.out.putw (by omega) (by omega) g WB.out b)
                     have WB := hid (show BoxAt v35 v33.heap.size 92 [.int .i64 (k : Int), .int .i64 0, .int .i64 0].toArray from b)
                     have CB := hid (CB.out.grown g (fun e => by have := Option.some.inj e; omega))
                     have PB := hid (PB.out.grown g (fun e => by have := Option.some.inj e; omega))
                     have RB := hid (RB.out.grown g (fun e => by have := Option.some.inj e; omega))
                     have XB := hid (XB.out.grown g (fun e => by have := Option.some.inj e; omega))
                     have HB := hid (HB.out.trans (grown_below g (by omega) (by omega)))
                     clear kXB0
                     have kXB0 : v35.cell? ⟨wr.heap.size, 0, none⟩ = some (.int .i64 r.st) := (BoxAt.cell XB.out 0).trans rfl
                     clear kXB9
                     have kXB9 : v35.cell? ⟨wr.heap.size, 9, none⟩ = some (.int .i64 r.un) := (BoxAt.cell XB.out 9).trans rfl
                     clear kXB10
                     have kXB10 : v35.cell? ⟨wr.heap.size, 10, none⟩ = some (.int .i64 r.ki) := (BoxAt.cell XB.out 10).trans rfl
                     clear b g z hfl FL31)
                  | (with_reducible refine wpList_dst 47 rfl ?_
                     refine wpList_load_box rfl 39 _ rfl v1.heap.size rfl _ _ PB.out _ Try.underlying39 Try.infoPa ?_)
                  | fail)
                refine (rleave_z (i := (k : Int)) HZ.out (by omega) HSk.out).mono ?_
                rintro e v36 ⟨q1, rfl, hz, hb⟩
                have CB := hid (CB.out.belowAll hb)
                have PB := hid (PB.out.belowAll hb)
                have RB := hid (RB.out.belowAll hb)
                have XB := hid (XB.out.belowAll hb)
                have WB := hid (WB.out.belowAll hb)
                have HZ := hid hz
                have HB := hid (HB.out.trans (hb.mono HB.out.size))
                have hsv36 : v35.heap.size ≤ v36.heap.size := hb.size
                clear kXB0
                have kXB0 : v36.cell? ⟨wr.heap.size, 0, none⟩ = some (.int .i64 r.st) := (BoxAt.cell XB.out 0).trans rfl
                clear kXB9
                have kXB9 : v36.cell? ⟨wr.heap.size, 9, none⟩ = some (.int .i64 r.un) := (BoxAt.cell XB.out 9).trans rfl
                clear kXB10
                have kXB10 : v36.cell? ⟨wr.heap.size, 10, none⟩ = some (.int .i64 r.ki) := (BoxAt.cell XB.out 10).trans rfl
                clear hb
                have FL32 := hid trivial
                have FL33 := hid trivial
                go_wp2_with (first
                  | (have hfl := FL32.out
                     refine wpList_store_whole rfl 39 _ _ rfl rfl v1.heap.size rfl (PaV.cells q1) rfl _ _ PB.out rfl Try.infoPa (PaV.one _) ?_
                     intro v37 b g z
                     have hsv37 : v36.heap.size ≤ v37.heap.size := by omega
                     have HZ := hid (HZ.out.put (by omega) (by omega) g PB.out b)
                     have PB := hid (show BoxAt v37 v1.heap.size 39 (PaV.cells q1).toArray from b)
                     have CB := hid (CB.out.grown g (fun e => by have := Option.some.inj e; omega))
                     have RB := hid (RB.out.grown g (fun e => by have := Option.some.inj e; omega))
                     have XB := hid (XB.out.grown g (fun e => by have := Option.some.inj e; omega))
                     have WB := hid (WB.out.grown g (fun e => by have := Option.some.inj e; omega))
                     have HB := hid (HB.out.trans (grown_below g (by omega) (by omega)))
                     clear kXB0
                     have kXB0 : v37.cell? ⟨wr.heap.size, 0, none⟩ = some (.int .i64 r.st) := (BoxAt.cell XB.out 0).trans rfl
                     clear kXB9
                     have kXB9 : v37.cell? ⟨wr.heap.size, 9, none⟩ = some (.int .i64 r.un) := (BoxAt.cell XB.out 9).trans rfl
                     clear kXB10
                     have kXB10 : v37.cell? ⟨wr.heap.size, 10, none⟩ = some (.int .i64 r.ki) := (BoxAt.cell XB.out 10).trans rfl
                     clear b g z hfl FL32)
                  | (have hfl := FL33.out
                     refine wpList_store_box rfl 3 _ _ rfl rfl v33.heap.size 1 (.int .i64 5) rfl rfl rfl rfl (by kernel_rfl) _ _ WB.out (by simp []) ?_
                     intro v38 b g z
                     have hsv38 : v37.heap.size ≤ v38.heap.size := by omega
                     have HZ := hid (HZ.out.putw (by omega) (by omega) g WB.out b)
                     have WB := hid (show BoxAt v38 v33.heap.size 92 [.int .i64 (k : Int), .int .i64 5, .int .i64 0].toArray by simpa [] using b)
                     have CB := hid (CB.out.grown g (fun e => by have := Option.some.inj e; omega))
                     have PB := hid (PB.out.grown g (fun e => by have := Option.some.inj e; omega))
                     have RB := hid (RB.out.grown g (fun e => by have := Option.some.inj e; omega))
                     have XB := hid (XB.out.grown g (fun e => by have := Option.some.inj e; omega))
                     have HB := hid (HB.out.trans (grown_below g (by omega) (by omega)))
                     clear kXB0
                     have kXB0 : v38.cell? ⟨wr.heap.size, 0, none⟩ = some (.int .i64 r.st) := (BoxAt.cell XB.out 0).trans rfl
                     clear kXB9
                     have kXB9 : v38.cell? ⟨wr.heap.size, 9, none⟩ = some (.int .i64 r.un) := (BoxAt.cell XB.out 9).trans rfl
                     clear kXB10
                     have kXB10 : v38.cell? ⟨wr.heap.size, 10, none⟩ = some (.int .i64 r.ki) := (BoxAt.cell XB.out 10).trans rfl
                     clear b g z hfl FL33)
                  | (with_reducible refine wpList_dst 51 rfl ?_
                     refine wpList_load_box rfl 39 _ rfl v1.heap.size rfl _ _ PB.out _ Try.underlying39 Try.infoPa ?_)
                  | (with_reducible refine wpList_dst 52 rfl ?_
                     refine wpList_load_box rfl 92 _ rfl v33.heap.size rfl _ _ WB.out _ Try.underlying92 Try.infoWkC ?_)
                  | fail)
                refine (rgo_z (kp := (k : Int)) (kc := 5) (kv := 0) HZ.out (by omega) (leave_small HSk.out _)).mono ?_
                rintro e v39 ⟨q2, rfl, hz, hb⟩
                have CB := hid (CB.out.belowAll hb)
                have PB := hid (PB.out.belowAll hb)
                have RB := hid (RB.out.belowAll hb)
                have XB := hid (XB.out.belowAll hb)
                have WB := hid (WB.out.belowAll hb)
                have HZ := hid hz
                have HB := hid (HB.out.trans (hb.mono HB.out.size))
                have hsv39 : v38.heap.size ≤ v39.heap.size := hb.size
                clear kXB0
                have kXB0 : v39.cell? ⟨wr.heap.size, 0, none⟩ = some (.int .i64 r.st) := (BoxAt.cell XB.out 0).trans rfl
                clear kXB9
                have kXB9 : v39.cell? ⟨wr.heap.size, 9, none⟩ = some (.int .i64 r.un) := (BoxAt.cell XB.out 9).trans rfl
                clear kXB10
                have kXB10 : v39.cell? ⟨wr.heap.size, 10, none⟩ = some (.int .i64 r.ki) := (BoxAt.cell XB.out 10).trans rfl
                clear hb
                skip
                obtain ⟨D, hD⟩ : ∃ D, goP (leaveP C (isW (k : Int))) (k : Int) 5 0 = D := ⟨_, rfl⟩
                rw [hD] at HZ
                have HD := hid (show wentP C k r = D from by rw [← hD]; unfold wentP codeX; simp only [HTm.out, if_false])
                clear hD
                have FL34 := hid trivial
                go_wp2_with (first
                  | (have hfl := FL34.out
                     refine wpList_store_whole rfl 39 _ _ rfl rfl v1.heap.size rfl (PaV.cells q2) rfl _ _ PB.out rfl Try.infoPa (PaV.one _) ?_
                     intro v40 b g z
                     have hsv40 : v39.heap.size ≤ v40.heap.size := by omega
                     have HZ := hid (HZ.out.put (by omega) (by omega) g PB.out b)
                     have PB := hid (show BoxAt v40 v1.heap.size 39 (PaV.cells q2).toArray from b)
                     have CB := hid (CB.out.grown g (fun e => by have := Option.some.inj e; omega))
                     have RB := hid (RB.out.grown g (fun e => by have := Option.some.inj e; omega))
                     have XB := hid (XB.out.grown g (fun e => by have := Option.some.inj e; omega))
                     have WB := hid (WB.out.grown g (fun e => by have := Option.some.inj e; omega))
                     have HB := hid (HB.out.trans (grown_below g (by omega) (by omega)))
                     clear kXB0
                     have kXB0 : v40.cell? ⟨wr.heap.size, 0, none⟩ = some (.int .i64 r.st) := (BoxAt.cell XB.out 0).trans rfl
                     clear kXB9
                     have kXB9 : v40.cell? ⟨wr.heap.size, 9, none⟩ = some (.int .i64 r.un) := (BoxAt.cell XB.out 9).trans rfl
                     clear kXB10
                     have kXB10 : v40.cell? ⟨wr.heap.size, 10, none⟩ = some (.int .i64 r.ki) := (BoxAt.cell XB.out 10).trans rfl
                     clear b g z hfl FL34)
                  | fail)
                go_roundw
                case rel => exact ⟨k + 1, q2, by have := HLt.out; omega, by go_num, (show Hid (PaZ n _ _ (wakeS cc c now (k + 1))) from by rw [show wakeS cc c now (k + 1) = wakeOne cc now k C from by rw [← HCk.out]; rfl, wake_yes HR.out HOv.out HD.out HNr.out]; exact HZ), CB, PB, RB, HB, by omega⟩
                case measure => have := HLt.out; simp [intOf]; omega
      · have t0 : (r.st != 2) = true := by simpa using e0
        have HT := hid (show ¬ overX now r from fun h => e0 h.1)
        clear e0
        have HV := hid (Below.refl wr.heap.size wr)
        have FL35 := hid trivial
        have FL36 := hid trivial
        go_wp2_with (first
          | (refine wpList_load_px rfl _ rfl b1 (off + k * 18) rfl r HP0.out ?_)
          | (have hfl := FL35.out
             refine wpList_new rfl 57 rfl _ Try.zeroPx ?_
             intro v41 b h z
             have XB := hid (show BoxAt v41 wr.heap.size 57 (Px.cells Px.zero).toArray from b)
             have CB := hid (CB.out.belowAll h)
             have PB := hid (PB.out.belowAll h)
             have RB := hid (RB.out.belowAll h)
             have HV := hid (HV.out.trans (h.mono HV.out.size))
             have HB := hid (HB.out.trans (h.mono HB.out.size))
             have hsv41 : wr.heap.size + 1 ≤ v41.heap.size := by omega
             clear kPB4
             have kPB4 : v41.cell? ⟨v1.heap.size, 4, none⟩ = some (.slice (some ⟨b1, off, none⟩) N cpp) := (BoxAt.cell PB.out 4).trans (by show some p.pr.val = _; rw [HPv.out])
             clear b h z hfl FL35)
          | (have hfl := FL36.out
             refine wpList_store_whole rfl 57 _ _ rfl rfl wr.heap.size rfl (Px.cells r) rfl _ _ XB.out rfl Try.infoPx (Px.one _) ?_
             intro v42 b g z
             have hsv42 : v41.heap.size ≤ v42.heap.size := by omega
             have HV := hid (HV.out.trans (grown_below g (by omega) (by omega)))
             have XB := hid (show BoxAt v42 wr.heap.size 57 (Px.cells r).toArray from b)
             have CB := hid (CB.out.grown g (fun e => by have := Option.some.inj e; omega))
             have PB := hid (PB.out.grown g (fun e => by have := Option.some.inj e; omega))
             have RB := hid (RB.out.grown g (fun e => by have := Option.some.inj e; omega))
             have HB := hid (HB.out.trans (grown_below g (by omega) (by omega)))
             clear kPB4
             have kPB4 : v42.cell? ⟨v1.heap.size, 4, none⟩ = some (.slice (some ⟨b1, off, none⟩) N cpp) := (BoxAt.cell PB.out 4).trans (by show some p.pr.val = _; rw [HPv.out])
             have kXB0 : v42.cell? ⟨wr.heap.size, 0, none⟩ = some (.int .i64 r.st) := (BoxAt.cell XB.out 0).trans rfl
             have kXB9 : v42.cell? ⟨wr.heap.size, 9, none⟩ = some (.int .i64 r.un) := (BoxAt.cell XB.out 9).trans rfl
             have kXB10 : v42.cell? ⟨wr.heap.size, 10, none⟩ = some (.int .i64 r.ki) := (BoxAt.cell XB.out 10).trans rfl
             clear b g z hfl FL36)
          | fail)
        have HZ := hid (HZ.out.below (by omega) HV.out)
        go_roundw
        case rel => exact ⟨k + 1, p, by have := HLt.out; omega, by go_num, (show Hid (PaZ n _ _ (wakeS cc c now (k + 1))) from by rw [show wakeS cc c now (k + 1) = wakeOne cc now k C from by rw [← HCk.out]; rfl, wakeOne_idle (by rw [HR.out]; exact HT.out)]; exact HZ), CB, PB, RB, HB, by omega⟩
        case measure => have := HLt.out; simp [intOf]; omega
    · obtain rfl : k = N := by omega
      clear hlt hpcell hln
      have kPB4 : wr.cell? ⟨v1.heap.size, 4, none⟩ = some (.slice ap k cpp) := (BoxAt.cell PB.out 4).trans (by show some p.pr.val = _; rw [HPv.out])
      have FL37 := hid trivial
      go_wp2_with (first
        | (with_reducible refine wpList_dst 100 rfl ?_
           refine wpList_load_box rfl 39 _ rfl v1.heap.size rfl _ _ PB.out _ Try.underlying39 Try.infoPa ?_)
        | (have hfl := FL37.out
           refine wpList_store_whole rfl 39 _ _ rfl rfl v2.heap.size rfl (PaV.cells p) rfl _ _ RB.out rfl Try.infoPa (PaV.one _) ?_
           intro v43 b g z
           have hsv43 : wr.heap.size ≤ v43.heap.size := by omega
           have HZ := hid (HZ.out.put (by omega) (by omega) g RB.out b)
           have RB := hid (show BoxAt v43 v2.heap.size 39 (PaV.cells p).toArray from b)
           have CB := hid (CB.out.grown g (fun e => by have := Option.some.inj e; omega))
           have PB := hid (PB.out.grown g (fun e => by have := Option.some.inj e; omega))
           have HB := hid (HB.out.trans (grown_below g (by omega) (by omega)))
           clear kPB4
           have kPB4 : v43.cell? ⟨v1.heap.size, 4, none⟩ = some (.slice ap k cpp) := (BoxAt.cell PB.out 4).trans (by show some p.pr.val = _; rw [HPv.out])
           clear b g z hfl FL37)
        | fail)
      refine bodyPost_ret (results_cell_row rfl _ _ (v2.heap.size) 39 _ (0, 0) _ rfl RB.out Try.underlying39 rfl Try.infoPa) rfl ?_
      refine ⟨p, rfl, ?_, HB.out⟩
      have e : wakeS cc c now k = wakeP cc c now := by unfold wakeP; rw [HN.out]
      rw [← e, HCk.out]
      exact HZ.out.pas

end Go.Proofs.Ytdanfnbclbiidaa
