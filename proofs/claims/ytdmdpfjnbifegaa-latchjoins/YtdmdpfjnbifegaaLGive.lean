/-
  What latch.Give returns, whatever latch it is given, and that nothing that was there is written.
-/
import Derived.Test.YtdmdpfjnbifegaaLLatch
namespace Go.Proofs.Ytdmdpfjnbifegaa
open Go.RowKit
set_option linter.unusedVariables false

theorem results_tmp_row {P : Program} {fn : Func} {p u : Tmp} {ty : TypeId} (h : fn.results = #[.tmp u, .cell p ty]) (tmps : Array Value) (w : World) (g : Nat) (t : TypeId) (cs : Array Value) (fr : Nat × Nat) (d : TypeDesc)
    (hp : tmps.getD p undef = .pointer (some ⟨g, 0, none⟩)) (hg : w.heap[g]? = some (.cells cs t fr))
    (hu : P.underlying ty = some d) (hd : (match d with | .struct _ | .array _ _ => true | _ => false) = true) (hi : (P.info? ty).map (·.size) = some cs.size) :
    (results fn tmps).run P w = .ok (.tuple #[tmps.getD u undef, .agg cs]) w := by
  have hp' : tmps[p]?.getD undef = .pointer (some ⟨g, 0, none⟩) := by simpa using hp
  simp [results, h, hp', asAddr, run_loadVar_row w g t ty cs fr d hg hu hd hi]

/-- What is given, when k of xs are copied. -/
def gs (xs : List Int) (k : Nat) : List Value := (xs.take k).map (Value.int .i64) ++ List.replicate (xs.length - k) (Value.int .i64 0)
theorem gs_zero (xs : List Int) : gs xs 0 = List.replicate xs.length (Value.int .i64 0) := by simp [gs]
theorem gs_all (xs : List Int) : gs xs xs.length = xs.map (Value.int .i64) := by simp [gs]
theorem gs_get (xs : List Int) (k : Nat) (h : k < xs.length) : (gs xs k)[k]? = some (.int .i64 0) := by
  rw [gs, List.getElem?_append_right (by simp; omega)]
  rw [List.length_map, List.length_take, Nat.min_eq_left (Nat.le_of_lt h), Nat.sub_self, List.getElem?_replicate, if_pos (by omega)]
theorem gs_set (xs : List Int) (k : Nat) (h : k < xs.length) : (gs xs k).set k (.int .i64 (xs.getD k 0)) = gs xs (k + 1) := by
  have hl : ((xs.take k).map (Value.int .i64)).length = k := by simp; omega
  rw [gs, gs, List.take_succ_eq_append_getElem h, List.map_append, show xs.length - k = (xs.length - (k + 1)) + 1 by omega, List.replicate_succ]
  rw [List.set_append_right _ _ (by omega), hl, Nat.sub_self, List.set_cons_zero]
  simp [List.getD, List.getElem?_eq_getElem h]

set_option maxRecDepth 100000 in
set_option maxHeartbeats 400000 in
theorem give_any (d p : Int) (v : Value) (xs : List Int) (w : World) (hv : Sees w .i64 v xs) (hlen : xs.length ≤ 100000) :
    Calls Try.prog 9 #[ltV d v p] w fun e w' => ∃ u, e = .returned (.tuple #[u, ltV d (.slice none 0 0) p]) ∧
      w'.ownsRow w.heap.size 3 1 u xs.length (xs.map (Value.int .i64)) ∧ Below w.heap.size w w' := by
  obtain ⟨i0, hi, hz0, hz1, hz2⟩ := info_parts Try.infoI6
  obtain ⟨a, cap, rfl, hc1, hc2, hcell⟩ := hv.form
  clear hv
  have HC := hid hcell
  clear hcell
  unfold maxLen at hc2
  go_enter Try.func9, Try.ntmps9
  go_wp2_with (at_make; refine wpList_make_room _ rfl _ _ 22 rfl (w.heap.size + 2) 3 i0 (.int .i64 0) Try.underlying22 hi hz0 hz1 rfl .i64 .i64 _ _ xs.length xs.length rfl rfl ?c1 ?c2 ?c3 ?c4 ?c5 ?c6 ?_)
  case c1 => rfl
  case c2 => rfl
  case c3 => omega
  case c4 => rw [hz2]; omega
  case c5 => unfold maxLen; omega
  case c6 => simp
  intro w1 ho1 hg1
  have hbel1 : Below w.heap.size w w1 := (((Below.refl _ _).alloc (Nat.le_refl _) _).alloc (by simp) _).grown hg1 (by simp; omega) (by simp)
  have b0 : BoxAt w1 w.heap.size 24 #[.int .i64 d, .slice a xs.length cap, .int .i64 p] := ((BoxAt.new w _ _).alloc _).grown hg1 (by simp)
  have b1 : BoxAt w1 (w.heap.size + 1) 24 #[.int .i64 0, .slice none 0 0, .int .i64 0] := by
    have h := BoxAt.new (w.alloc (.cells #[.int .i64 d, .slice a xs.length cap, .int .i64 p] 24)) 24 #[.int .i64 0, .slice none 0 0, .int .i64 0]
    simp at h
    exact h.grown hg1 (by simp)
  have hcx := b0.cell 1
  simp at hcx
  rw [← gs_zero] at ho1
  have HO := hid ho1
  have B0 := hid b0
  have B1 := hid b1
  clear hg1 ho1 b0 b1
  go_wp2
  go_loopw [13] (fun i wr => ∃ k : Nat, k ≤ xs.length ∧ i = .int .i64 k ∧ wr.ownsRow (w.heap.size + 2) 3 1 (.slice (some ⟨w.heap.size + 1 + 1, 0, none⟩) xs.length xs.length) xs.length (gs xs k) ∧
      BoxAt wr w.heap.size 24 #[.int .i64 d, .slice a xs.length cap, .int .i64 p] ∧ BoxAt wr (w.heap.size + 1) 24 #[.int .i64 0, .slice none 0 0, .int .i64 0] ∧ Below w.heap.size w wr) (fun i _ => xs.length - (intOf i).toNat)
  case atStart => exact ⟨0, by omega, rfl, HO.out, B0.out, B1.out, hbel1⟩
  case round =>
    clear HO B0 B1 hbel1 hcx
    obtain ⟨k, hk, rfl, ho, b0, b1, hbel⟩ := hrel
    have f0 := b0.free
    have f1 := b1.free
    have c0 := b0.cell 0
    have c1 := b0.cell 1
    have c2 := b0.cell 2
    have e0 := b1.cell 0
    have e1 := b1.cell 1
    have e2 := b1.cell 2
    simp at c0 c1 c2 e0 e1 e2
    by_cases hlt : k < xs.length
    · obtain ⟨b, off, rfl, hbw, hcell⟩ := HC.out (by omega)
      have hx := (hbel.cell (by exact hbw)).trans (hcell k hlt)
      have hy := (ho.cellAt k (by omega)).trans (gs_get xs k hlt)
      have hf := ho.frozenAt k
      have HS := hid (ho.stored k (.int .i64 (xs.getD k 0))).1
      have HG := hid (gs_set xs k hlt)
      have B0 := hid b0
      have B1 := hid b1
      clear ho hcell b0 b1 HC
      generalize xs.getD k 0 = x at *
      go_wp2
      go_roundw
      case rel =>
        refine ⟨k + 1, by omega, by go_num, ?_, B0.out.other (by omega) _, B1.out.other (by omega) _, hbel.setCell (by simp; omega) _⟩
        rw [← HG.out]
        exact HS.out
      case measure => simp [intOf]; omega
    · obtain rfl : k = xs.length := by omega
      rw [gs_all] at ho
      have HO := hid ho
      have B0 := hid b0
      have B1 := hid b1
      clear ho b0 b1 HC
      go_wp2
      go_region
      all_goals (try go_wp2)
      all_goals
        refine bodyPost_ret (results_tmp_row rfl _ _ (w.heap.size + 1) 24 _ (0, 0) _ rfl ((B1.out.other (by omega) _).set3 _ _ _) Try.underlying24 rfl Try.infoL6) rfl ?_
        refine ⟨_, rfl, ?_, ?_⟩
        · exact owns_base (World.ownsRow.drew (ownsRow_setCell_below (ownsRow_setCell_below (ownsRow_setCell_below (ownsRow_setCell_below HO.out (by simp) _) (by simp) _) (by simp) _) (by simp) _)) (by omega)
        · exact ((((hbel.setCell (by simp) _).setCell (by simp) _).setCell (by simp) _).setCell (by simp) _).drew
end Go.Proofs.Ytdmdpfjnbifegaa
