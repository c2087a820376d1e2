/-
  What procs.Start, Suspend return.
-/
import Derived.Test.YtdanfnbclbiidaaQApi
namespace Go.Proofs.Ytdanfnbclbiidaa
open Go.RowKit
set_option linter.unusedVariables false

set_option maxRecDepth 100000 in
set_option maxHeartbeats 1600000 in
theorem start_api {qc : Pv} {cc : Pt} {q : PaV} {c : Pa} {i now : Int} {w : World} (hc : PtAt w qc cc) (ha : PaAt w q c) (hn : c.small) :
    Calls Try.prog 23 #[qc.val, q.val, .int .i64 i, .int .i64 now] w fun e w' => ∃ q', e = .returned (.tuple #[PaV.val q', .int .i64 (startP cc c i now).2]) ∧ PaO w' w.heap.size q' (startP cc c i now).1 ∧ Below w.heap.size w w' := by
  have HC := hid hc
  have HA := hid ha
  have HN := hid hn
  obtain ⟨ac, cpc, hcv, hc1, hc2, hcell⟩ := hc.pc.form
  have hmax : cpc ≤ 9223372036854775807 := hc2
  clear hc ha hn hc2
  obtain ⟨s, hs⟩ : ∃ s : Sl, qc.v2 = s := ⟨_, rfl⟩
  rw [hs] at hcv
  obtain ⟨s1, s2, s3⟩ := s
  unfold Sl.val at hcv
  simp only [Value.slice.injEq] at hcv
  obtain ⟨rfl, rfl, rfl⟩ := hcv
  have HCp := hid hs
  have HCell := hid hcell
  clear hs hcell
  obtain ⟨⟨Dc, Dk⟩, hD⟩ : ∃ D, startP cc c i now = D := ⟨_, rfl⟩
  rw [hD]
  have HSp := hid hD
  clear hD
  simp only
  go_enter Try.func23, Try.ntmps23

  go_wp2_with (first
  | (refine wpList_box rfl 28 _ rfl qc.cells.toArray rfl ?_
     intro w1 b1 h1 z1
     have CB := hid b1
     have HBc := hid h1
     have HK := trivial
     clear b1 h1)
  | (refine wpList_box rfl 39 _ rfl q.cells.toArray rfl ?_
     intro w2 b2 h2 z2
     rw [z1] at b2
     have CB := hid (CB.out.belowAll h2)
     have PB := hid (show PaB w2 (w.heap.size + 1) q from b2)
     have HBc := hid (HBc.out.trans (h2.mono (by omega)))
     clear b2 h2)
  | (refine wpList_box1 rfl 3 _ rfl (.int .i64 now) rfl rfl ?_
     intro w3 b3 h3 z3
     rw [z2, z1] at b3
     have CB := hid (CB.out.belowAll h3)
     have PB := hid (show PaB w3 (w.heap.size + 1) q from BoxAt.belowAll PB.out h3)
     have NB := hid b3
     have HBc := hid (HBc.out.trans (h3.mono (by omega)))
     clear b3 h3)
  | (refine wpList_new rfl 39 rfl _ Try.zeroPa ?_
     intro w4 b4 h4 z4
     rw [z3, z2, z1] at b4
     have CB := hid (CB.out.belowAll h4)
     have PB := hid (show PaB w4 (w.heap.size + 1) q from BoxAt.belowAll PB.out h4)
     have NB := hid (NB.out.belowAll h4)
     have RB := hid b4
     have HBc := hid (HBc.out.trans (h4.mono (by omega)))
     clear b4 h4
     have kc : w4.cell? ⟨w.heap.size, 2, none⟩ = some (.slice s1 cc.pc.length s3) := (CB.out.cell 2).trans (by simp [Pv.cells, HCp.out]))
  | fail)
  refine (there_Pc _ _ _ _ _).mono ?_
  rintro e w9 ⟨rfl, rfl⟩
  have hsz9 : w.heap.size + 4 ≤ w9.heap.size := by omega
  clear z1 z2 z3 z4
  by_cases hin : 0 ≤ i ∧ i < cc.pc.length
  · rw [decide_eq_true hin]
    have hsp : startP cc c i now = deedP c i (startD (cc.pc.getD i.toNat Pc.zero) now) := by unfold startP; rw [if_pos hin]
    rw [HSp.out] at hsp
    have HSp := hid hsp
    clear hsp
    obtain ⟨h0, h1⟩ := hin
    obtain ⟨k, rfl⟩ : ∃ k : Nat, i = (k : Int) := ⟨i.toNat, by omega⟩
    have hk : k < cc.pc.length := by omega
    rw [Int.toNat_natCast] at HSp
    obtain ⟨b, off, rfl, hbw, hcell⟩ := HCell.out (by omega)
    have HRg := hid (show w9.rangeAt b (off + k * 5) (cc.pc.getD k Pc.zero).cells from range_of _ (fun j hj => (HBc.out.cell (by exact hbw)).trans (hcell k hk j hj)))
    obtain ⟨f, hf⟩ : ∃ f, cc.pc.getD k Pc.zero = f := ⟨_, rfl⟩
    rw [hf] at HRg HSp
    clear hf hcell HCell
    go_wp2_with (first
    | (refine wpList_load_mid rfl 60 _ rfl b (off + k * 5) rfl f.cells _ HRg.out Try.underlying60 rfl Try.infoPc ?_)
    | (refine wpList_new rfl 60 rfl _ Try.zeroPc ?_
       intro wf b7 h7 z7
       have FB := hid b7
       have PB := hid (show PaB wf (w.heap.size + 1) q from BoxAt.belowAll PB.out h7)
       have NB := hid (NB.out.belowAll h7)
       have RB := hid (RB.out.belowAll h7)
       have HBc := hid (HBc.out.trans (h7.mono (by omega)))
       clear b7 h7)
    | (refine wpList_store_whole rfl 60 _ _ rfl rfl w9.heap.size rfl f.cells rfl _ _ FB.out rfl Try.infoPc (Pc.one _) ?_
       intro wg b8 g8 z8
       have FB := hid b8
       have hne : ∀ b, b < w9.heap.size → some b ≠ some w9.heap.size := fun b hb e => by have := Option.some.inj e; omega
       have PB := hid (show PaB wg (w.heap.size + 1) q from BoxAt.grown PB.out g8 (hne _ (by omega)))
       have NB := hid (NB.out.grown g8 (hne _ (by omega)))
       have RB := hid (RB.out.grown g8 (hne _ (by omega)))
       have HBc := hid (HBc.out.trans (grown_below g8 (by omega) (by omega)))
       clear b8 g8 hne)
    | (refine wpList_load_box rfl 39 _ rfl (w.heap.size + 1) rfl _ _ PB.out _ Try.underlying39 Try.infoPa ?_)
    | fail)
    refine (change_any (k : Int) 46 #[.pointer (some ⟨w9.heap.size, 0, none⟩), .pointer (some ⟨w.heap.size + 1 + 1, 0, none⟩)] (startD f now) Try.entersStart (HA.out.below HBc.out) HN.out (fun W hW base g cap j L P O r q2 hp => start_any hp f now w9.heap.size (w.heap.size + 1 + 1) (FB.out.belowAll hW) (NB.out.belowAll hW))).mono ?_
    rintro e wv ⟨q', rfl, ho, hb⟩
    have HO := hid (ho.mono HBc.out.size)
    have RB := hid (RB.out.belowAll hb)
    have hsz : w.heap.size + 4 ≤ wv.heap.size := by have := hb.size; omega
    have HBc := hid (HBc.out.trans (hb.mono HBc.out.size))
    clear ho hb
    go_wp2_with (first
    | (refine wpList_store_whole rfl 39 _ _ rfl rfl (w.heap.size + 1 + 1 + 1) rfl (PaV.cells q') rfl _ _ RB.out rfl Try.infoPa (PaV.one _) ?_
       intro wz b g z
       have HT := hid (Turns.grown (S := fun t => t = 39) RB.out b rfl g)
       have RB := hid b
       have HBc := hid (HBc.out.trans (grown_below g (by omega) (by omega)))
       have HO := hid (HO.out.turn HT.out)
       clear b g z))
    refine bodyPost_ret (results_box_tmp rfl _ _ (w.heap.size + 1 + 1 + 1) 39 _ (0, 0) _ rfl RB.out Try.underlying39 rfl Try.infoPa) rfl ?_
    refine ⟨q', ?_, ?_, HBc.out⟩
    · rw [show Dk = _ from congrArg Prod.snd HSp.out]; rfl
    · rw [show Dc = _ from congrArg Prod.fst HSp.out]; exact HO.out
  · rw [decide_eq_false hin]
    have hsp : startP cc c i now = (c, 3) := by unfold startP; rw [if_neg hin]
    rw [HSp.out] at hsp
    obtain ⟨rfl, rfl⟩ := Prod.mk.inj hsp
    clear hsp HSp
    go_wp2_with (first
    | (refine wpList_load_box rfl 39 _ rfl (w.heap.size + 1) rfl _ _ PB.out _ Try.underlying39 Try.infoPa ?_)
    | fail)
    refine (own_any (HA.out.below HBc.out) HN.out).mono ?_
    rintro e wv ⟨q', rfl, ho, hb⟩
    have HO := hid (ho.mono HBc.out.size)
    have RB := hid (RB.out.belowAll hb)
    have hsz : w.heap.size + 4 ≤ wv.heap.size := by have := hb.size; omega
    have HBc := hid (HBc.out.trans (hb.mono HBc.out.size))
    clear ho hb
    go_wp2_with (first
    | (refine wpList_store_whole rfl 39 _ _ rfl rfl (w.heap.size + 1 + 1 + 1) rfl (PaV.cells q') rfl _ _ RB.out rfl Try.infoPa (PaV.one _) ?_
       intro wz b g z
       have HT := hid (Turns.grown (S := fun t => t = 39) RB.out b rfl g)
       have RB := hid b
       have HBc := hid (HBc.out.trans (grown_below g (by omega) (by omega)))
       have HO := hid (HO.out.turn HT.out)
       clear b g z))
    refine bodyPost_ret (results_box_tmp rfl _ _ (w.heap.size + 1 + 1 + 1) 39 _ (0, 0) _ rfl RB.out Try.underlying39 rfl Try.infoPa) rfl ?_
    exact ⟨q', rfl, HO.out, HBc.out⟩

end Go.Proofs.Ytdanfnbclbiidaa
