/-
  What procs.New returns: processes as they are configured, the call's own.
-/
import Derived.Test.YtdanfnbclbiidaaQApi2
import Derived.Test.YtdanfnbclbiidaaQDel
namespace Go.Proofs.Ytdanfnbclbiidaa
open Go.RowKit
set_option linter.unusedVariables false

theorem made_px (n : Nat) : (madeCells Px.zero.cells.toArray (n * 18)).toList = ((List.replicate n Px.zero).map Px.cells).flatten := by
  have hl : ((List.replicate n Px.zero).map Px.cells).flatten.length = n * 18 := by rw [px_flat]; simp
  apply List.ext_getElem
  · rw [hl]; simp [size_madeCells]
  · intro j h1 h2
    have hj : j < n * 18 := by rw [hl] at h2; exact h2
    have hd : j / 18 < n := by omega
    have hm : j % 18 < 18 := by omega
    have he : j / 18 * 18 + j % 18 = j := by omega
    have h := flat_get 18 ((List.replicate n Px.zero).map Px.cells) (px_lens _) (j / 18) (j % 18) (by simpa using hd) hm
    rw [he, cells_getDPx _ _ (by simpa using hd)] at h
    rw [List.getElem?_eq_getElem h2] at h
    have h3 : (List.replicate n Px.zero).getD (j / 18) Px.zero = Px.zero := by simp [List.getD, hd]
    rw [h3] at h
    rw [Option.some.inj h]
    simp only [madeCells, Array.toList_map, List.getElem_map]
    have hz : ∀ m, m < 18 → Px.zero.cells.toArray[m]! = Px.zero.cells.getD m .nilIface := fun m hm => by
      match m, hm with
      | 0, _ => rfl
      | 1, _ => rfl
      | 2, _ => rfl
      | 3, _ => rfl
      | 4, _ => rfl
      | 5, _ => rfl
      | 6, _ => rfl
      | 7, _ => rfl
      | 8, _ => rfl
      | 9, _ => rfl
      | 10, _ => rfl
      | 11, _ => rfl
      | 12, _ => rfl
      | 13, _ => rfl
      | 14, _ => rfl
      | 15, _ => rfl
      | 16, _ => rfl
      | 17, _ => rfl
      | m + 18, h => exact absurd h (by omega)
    have hs : Px.zero.cells.toArray.size = 18 := rfl
    simp only [Array.toList_range, List.getElem_range, hs]
    exact hz _ hm

theorem wpList_make_px {ops : Array Oper} {rest : List Oper} {o : Oper} {a : Act} {w : World} {Q : Exit → Act → World → Prop} (hg : o.guard = none) (l c : Operand) (hop : o.op = Op.makeSlice 29 l c)
    (n : Nat) (hl : a.eval l = .int .i64 (n : Int)) (hc : a.eval c = .int .i64 (n : Int)) (hn : n ≤ 900000)
    (hK : ∀ w', OP w' w.heap.size (.slice (some ⟨w.heap.size, 0, none⟩) n n) (List.replicate n Px.zero) → Below w.heap.size w w' → wpList Try.prog ops Q rest (a.put o.dst (.slice (some ⟨w.heap.size, 0, none⟩) n n)) w') :
    wpList Try.prog ops Q (o :: rest) a w := by
  obtain ⟨i0, hi, hz0, hz1, hz2⟩ := info_parts Try.infoOP
  refine wpList_plain hg fun K hK' => ?_
  have hr := run_make (P := Try.prog) w 29 57 i0 _ Try.underlying29 hi hz0 .i64 .i64 n n (by omega) (by omega) (by rw [hz2]; omega) (by omega)
  simp only [Int.toNat_natCast, hz1] at hr
  unfold Oper.wp
  simp only [execOp, hop, hl, hc, Sem.run_bind, hr, Result.andThen_ok, Sem.run_pure]
  refine hK' _ _ (hK _ ⟨by rw [px_flat], .inr ⟨w.heap.size, n, _, by simp, Nat.le_refl _, heap_alloc_new w _, by simp, by unfold maxLen; omega, by simp [size_madeCells, Value.cells], ?_⟩⟩ ((Below.refl _ w).alloc (Nat.le_refl _) _))
  simp only [Value.cells, List.length_replicate]
  rw [made_px, List.take_of_length_le (by rw [px_flat]; simp)]

set_option maxRecDepth 100000 in
set_option maxHeartbeats 1600000 in
theorem new_any {qc : Pv} {cc : Pt} {w : World} (hc : PtAt w qc cc) (hlen : cc.pc.length ≤ 900000) :
    Calls Try.prog 24 #[qc.val] w fun e w' => ∃ u, e = .returned u ∧ OP w' w.heap.size u (newP cc) ∧ Below w.heap.size w w' := by
  obtain ⟨ac, cpc, hcv, hc1, hc2, hcell⟩ := hc.pc.form
  have hmax : cpc ≤ 9223372036854775807 := hc2
  clear hc hc2
  obtain ⟨s, hs⟩ : ∃ s : Sl, qc.v2 = s := ⟨_, rfl⟩
  rw [hs] at hcv
  obtain ⟨s1, s2, s3⟩ := s
  unfold Sl.val at hcv
  simp only [Value.slice.injEq] at hcv
  obtain ⟨rfl, rfl, rfl⟩ := hcv
  have HCp := hid hs
  have HCell := hid hcell
  clear hs hcell
  go_enter Try.func24, Try.ntmps24
  go_wp2_with (first
    | (refine wpList_box rfl 28 (.tmp 0) rfl qc.cells.toArray rfl ?_
       intro w1 b1 h1 z1
       have CB := hid b1
       have HBc := hid h1
       have kc : w1.cell? ⟨w.heap.size, 2, none⟩ = some (.slice s1 cc.pc.length s3) := (CB.out.cell 2).trans (by simp [Pv.cells, HCp.out])
       clear b1 h1)
    | (refine wpList_make_px rfl _ _ rfl cc.pc.length rfl rfl hlen ?_
       intro w2 ho hb
       have HO := hid ho
       have hg : w.heap.size ≤ w1.heap.size := HBc.out.size
       have CB := hid (CB.out.belowAll hb)
       have HBc := hid (HBc.out.trans (hb.mono HBc.out.size))
       have kc : w2.cell? ⟨w.heap.size, 2, none⟩ = some (.slice s1 cc.pc.length s3) := (CB.out.cell 2).trans (by simp [Pv.cells, HCp.out])
       have hz2 : w1.heap.size < w2.heap.size := by obtain ⟨_, hx, _, hy⟩ := owns_box (show w2.ownsRow w1.heap.size 57 18 (.slice (some ⟨w1.heap.size, 0, none⟩) cc.pc.length cc.pc.length) cc.pc.length _ by have h := HO.out; unfold OP at h; rw [List.length_replicate] at h; exact h); exact hy
       clear ho hb z1))
  have HN := hid hlen
  have hbase : w.heap.size ≤ w1.heap.size := hg
  clear hg hlen
  go_loopw [13] (fun t wr => ∃ k : Nat, k ≤ cc.pc.length ∧ t = .int .i64 k ∧ Hid (wr.ownsRow w1.heap.size 57 18 (.slice (some ⟨w1.heap.size, 0, none⟩) cc.pc.length cc.pc.length) cc.pc.length (((cc.pc.take k).map (fun x => Px.dorm x.pr) ++ List.replicate (cc.pc.length - k) Px.zero).map Px.cells).flatten) ∧ Below w.heap.size w wr ∧ w1.heap.size < wr.heap.size) (fun t _ => cc.pc.length - (intOf t).toNat)
  case atStart => exact ⟨0, by omega, rfl, hid (by have h := HO.out; unfold OP at h; rw [List.length_replicate] at h; simpa using h), HBc.out, hz2⟩
  case round =>
    clear HO HBc hz2 CB
    obtain ⟨k, hk, rfl, HO, hbel, hgw⟩ := hrel
    by_cases hlt : k < cc.pc.length
    · have HLt := hid hlt
      obtain ⟨b, off, rfl, hbw, hcell⟩ := HCell.out (by omega)
      have c0 := (hbel.cell (by exact hbw)).trans (hcell k hlt 0 (by decide))
      have c1 := (hbel.cell (by exact hbw)).trans (hcell k hlt 1 (by decide))
      have c2 := (hbel.cell (by exact hbw)).trans (hcell k hlt 2 (by decide))
      have c3 := (hbel.cell (by exact hbw)).trans (hcell k hlt 3 (by decide))
      have c4 := (hbel.cell (by exact hbw)).trans (hcell k hlt 4 (by decide))
      obtain ⟨f, hf⟩ : ∃ f, cc.pc.getD k Pc.zero = f := ⟨_, rfl⟩
      rw [hf] at c0 c1 c2 c3 c4
      have HF := hid hf
      clear hf hcell HCell
      obtain ⟨f0, f1, f2, f3, f4⟩ := f
      simp only [Pc.cells, List.getD_cons_zero, List.getD_cons_succ, Nat.add_zero] at c0 c1 c2 c3 c4
      have hsz := hbel.size
      go_wp2_with fail
      refine (dorm_any f0 _).mono ?_
      rintro e w3 ⟨rfl, hb3⟩
      have HB3 := hid ((hbel.alloc hsz _).trans (hb3.mono (by simp; omega)))
      have HO3 := hid (owns_below HO.out (((Below.refl wr.heap.size wr).alloc (Nat.le_refl _) (.cells #[.int .i64 f0, .int .i64 f1, .int .i64 f2, .int .i64 f3, .bool f4] 60)).trans (hb3.mono (by simp))))
      have hg3 : w1.heap.size < w3.heap.size := by have := hb3.size; simp at this; omega
      clear hb3 HO c0 c1 c2 c3 c4
      go_wp2_with (
        (refine wpList_store_el rfl 57 _ _ rfl rfl HO3.out (px_lens _) k (by simp; omega) (Px.cells (Px.dorm f0)) rfl rfl rfl Try.infoPx (Px.one _) ?_
         intro w4 ho4 hgr4 hz4
         have HB4 := hid (HB3.out.trans (grown_below hgr4 hbase HB3.out.size))
         have HO4 := hid ho4
         clear ho4 hgr4))
      go_roundw
      case rel =>
        refine ⟨k + 1, by have := HLt.out; omega, by go_num, hid ?_, HB4.out, by omega⟩
        have h := HO4.out
        rw [← List.map_set] at h
        have e1 : ((cc.pc.take k).map (fun x => Px.dorm x.pr) ++ List.replicate (cc.pc.length - k) Px.zero).set k (Px.dorm f0) = (cc.pc.take (k + 1)).map (fun x => Px.dorm x.pr) ++ List.replicate (cc.pc.length - (k + 1)) Px.zero := by
          have hk' := HLt.out
          have h1 : ((cc.pc.take k).map (fun x => Px.dorm x.pr)).length = k := by simp; omega
          rw [List.set_append_right _ _ (by omega), h1, Nat.sub_self, show cc.pc.length - k = (cc.pc.length - (k + 1)) + 1 by omega, List.replicate_succ, List.set_cons_zero]
          have h2 : cc.pc.take (k + 1) = cc.pc.take k ++ [cc.pc.getD k Pc.zero] := by rw [List.take_add_one, List.getElem?_eq_getElem hk']; simp [List.getD, List.getElem?_eq_getElem hk']
          rw [h2, HF.out, List.map_append, List.append_assoc]
          rfl
        rw [e1] at h
        exact h
      case measure => have := HLt.out; simp [intOf]; omega
    · go_wp2
      go_ret
      have hke : k = cc.pc.length := by omega
      refine ⟨_, rfl, ?_, hbel⟩
      have h := HO.out
      rw [hke, List.take_length, Nat.sub_self, List.replicate_zero, List.append_nil] at h
      have h2 : OP wr w1.heap.size (.slice (some ⟨w1.heap.size, 0, none⟩) cc.pc.length cc.pc.length) (newP cc) := by
        unfold OP newP
        rw [List.length_map]
        exact h
      exact h2.mono hbase
end Go.Proofs.Ytdanfnbclbiidaa
