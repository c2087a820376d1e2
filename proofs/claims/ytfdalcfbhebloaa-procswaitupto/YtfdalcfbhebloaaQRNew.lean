/-
  What the document's New return.
-/
import Derived.Test.YtfdalcfbhebloaaQRef3
namespace Go.Proofs.Ytfdalcfbhebloaa
open Go.RowKit
set_option linter.unusedVariables false

theorem run_lit_px (r : Px) (w : World) : (Instr.buildSlice 29 1 #[(0, r.val)]).run Try.prog w = .ok (.slice (some ⟨w.heap.size, 0, none⟩) 1 1) (w.alloc (.cells r.cells.toArray 58)) := by
  obtain ⟨i0, hi, hz0, hz1, hz2⟩ := info_parts Try.infoOP
  have hs : (sizeOf 58).run Try.prog w = .ok 18 w := by unfold sizeOf; simp [typeInfo, hi, hz1]
  have hz : (zeroValue 58).run Try.prog w = .ok (.agg Px.zero.cells.toArray) w := by unfold zeroValue; simp [typeInfo, hi, hz0]
  have hf : Instr.fill (fun i => some (i * 18, 18)) ((Array.range (1 * 18)).map (fun j => (Value.agg Px.zero.cells.toArray).cells[j % (Value.agg Px.zero.cells.toArray).cells.size]!)) [(0, r.val)] = some r.cells.toArray := by kernel_rfl
  unfold Instr.buildSlice
  simp only [Sem.run_bind, run_underlying Try.underlying29, Result.andThen_ok, hs]
  rw [if_neg (by decide), if_neg (by decide)]
  simp only [Sem.run_bind, hz, Sem.run_pure, Result.andThen_ok, hf, newRow, run_newObj_alloc]
theorem wpList_lit_px {ops : Array Oper} {rest : List Oper} {o : Oper} {a : Act} {w : World} {Q : Exit → Act → World → Prop} (hg : o.guard = none) (x : Operand) (ho : o.op = .buildSlice 29 1 #[(0, x)]) (r : Px) (hx : a.eval x = r.val)
    (h : ∀ w', BoxAt w' w.heap.size 58 r.cells.toArray → Below w.heap.size w w' → w'.heap.size = w.heap.size + 1 → wpList Try.prog ops Q rest (a.put o.dst (.slice (some ⟨w.heap.size, 0, none⟩) 1 1)) w') : wpList Try.prog ops Q (o :: rest) a w := by
  refine wpList_plain hg fun K hK => ?_
  unfold Oper.wp execOp
  simp only [ho, List.map_toArray, List.map_cons, List.map_nil, hx, Sem.run_bind, run_lit_px, Result.andThen_ok, Sem.run_pure]
  exact hK _ _ (h _ (BoxAt.new w _ _) ((Below.refl _ w).alloc (Nat.le_refl _) _) (by simp))

set_option maxRecDepth 100000 in
set_option maxHeartbeats 1600000 in
theorem rnew_any {qc : Pv} {cc : Pt} {w : World} (hc : PtAt w qc cc) (hlen : cc.pc.length ≤ 900000) :
    Calls Try.prog 22 #[qc.val] w fun e w' => ∃ u, e = .returned u ∧ OP w' w.heap.size u (newP cc) ∧ Below w.heap.size w w' := by
  obtain ⟨ac, cpc, hcv, hc1, hc2, hcell⟩ := hc.pc.form
  have hmax : cpc ≤ 9223372036854775807 := hc2
  have HCv := hid hcv
  have HCell := hid hcell
  have HN := hid hlen
  have HB := hid (Below.refl w.heap.size w)
  clear hc hc2 hcv hcell hlen
  go_enter Try.func22, Try.ntmps22
  go_wp2_with (first
    | (refine wpList_box rfl 28 (.tmp 0) rfl qc.cells.toArray rfl ?_
       intro v1 b h z
       have CB := hid (show BoxAt v1 w.heap.size 28 (Pv.cells qc).toArray from b)
       have HB := hid (HB.out.trans (h.mono HB.out.size))
       have hsv1 : w.heap.size + 1 ≤ v1.heap.size := by omega
       clear b h z)
    | fail)
  go_loopw [3, 4] (fun s t wr => ∃ k : Nat, k ≤ cc.pc.length ∧ t = .int .i64 k ∧ Hid (OP wr v1.heap.size s ((cc.pc.take k).map fun x => Px.dorm x.pr)) ∧ Hid (BoxAt wr w.heap.size 28 (Pv.cells qc).toArray) ∧ Hid (Below w.heap.size w wr) ∧ v1.heap.size ≤ wr.heap.size) (fun _ t _ => cc.pc.length - (intOf t).toNat)
  case atStart => exact ⟨0, by omega, rfl, hid (OP.nil _ _), CB, HB, Nat.le_refl _⟩
  case round =>
    clear CB HB
    obtain ⟨k, hk, rfl, HO, CB, HB, hsr⟩ := hrel
    by_cases hlt : k < cc.pc.length
    · have HLt := hid hlt
      obtain ⟨b2, of2, rfl, hbw2, hcell⟩ := HCell.out (by omega)
      obtain ⟨f, hf⟩ : ∃ f, cc.pc.getD k Pc.zero = f := ⟨_, rfl⟩
      have c0 : wr.cell? ⟨b2, of2 + k * 5, none⟩ = some (.int .i64 f.pr) := (HB.out.cell (by exact hbw2)).trans (by have h := hcell k hlt 0 (by decide); rw [hf] at h; exact h)
      have HF := hid hf
      have kC : wr.cell? ⟨w.heap.size, 2, none⟩ = some (.slice (some ⟨b2, of2, none⟩) cc.pc.length cpc) := (BoxAt.cell CB.out 2).trans (by show some qc.v2.val = _; rw [HCv.out])
      clear hf hcell
      go_wp2_with fail
      refine (rdorm_any f.pr _).mono ?_
      rintro e v3 ⟨rfl, hb⟩
      have HO := hid (HO.out.below hb)
      have CB := hid (CB.out.belowAll hb)
      have HB := hid (HB.out.trans (hb.mono HB.out.size))
      have hsr3 : v1.heap.size ≤ v3.heap.size := by have := hb.size; omega
      clear hb c0 kC
      go_wp2_with (first
        | (refine wpList_lit_px rfl (.tmp 19) rfl (Px.dorm f.pr) rfl ?_
           intro v4 b h z
           have XB := hid b
           have HO := hid (HO.out.below h)
           have CB := hid (CB.out.belowAll h)
           have HB := hid (HB.out.trans (h.mono HB.out.size))
           have hsr4 : v1.heap.size ≤ v4.heap.size := by omega
           clear b h z)
        | (at_builtin
           refine app_px rfl _ _ rfl v1.heap.size _ _ rfl HO.out _ [Px.dorm f.pr] rfl (SeesPx.box XB.out) (by have h1 := HN.out; have h2 := HLt.out; simp; omega) hsr4 ?_
           intro v' v5 ho hg hb
           have HO := hid ho
           have CB := hid (CB.out.below hb (by omega))
           have HB := hid (HB.out.trans (hb.mono (by omega)))
           have hsr5 : v1.heap.size ≤ v5.heap.size := by have := hb.size; omega
           clear ho hg hb)
        | fail)
      go_roundw
      case rel =>
        refine ⟨k + 1, by have := HLt.out; omega, by go_num, hid ?_, CB, HB, hsr5⟩
        have h2 : cc.pc.take (k + 1) = cc.pc.take k ++ [cc.pc.getD k Pc.zero] := by rw [List.take_add_one, List.getElem?_eq_getElem HLt.out]; simp [List.getD, List.getElem?_eq_getElem HLt.out]
        rw [h2, HF.out, List.map_append]
        exact HO.out
      case measure => have := HLt.out; simp [intOf]; omega
    · have hke : k = cc.pc.length := by omega
      have kC : wr.cell? ⟨w.heap.size, 2, none⟩ = some (.slice ac cc.pc.length cpc) := (BoxAt.cell CB.out 2).trans (by show some qc.v2.val = _; rw [HCv.out])
      subst hke
      go_wp2
      go_ret
      refine ⟨_, rfl, ?_, HB.out⟩
      have h := HO.out
      rw [List.take_length] at h
      exact h.mono (by omega)
end Go.Proofs.Ytfdalcfbhebloaa
