/-
  What procs.Start, Stop, Suspend, Resume, Prio, Block, Go return: all of it the call's own.
-/
import Derived.Test.YtdanfnbclbiidaaQChange
import Derived.Test.YtdanfnbclbiidaaTOpenG
import Derived.Test.YtdanfnbclbiidaaQOpen
namespace Go.Proofs.Ytdanfnbclbiidaa
open Go.RowKit
set_option linter.unusedVariables false

theorem Try.infoPv : (Try.prog.info? 28).map (·.size) = some 11 := by kernel_rfl
theorem Try.infoPc : (Try.prog.info? 60).map (·.size) = some 5 := by kernel_rfl
theorem Try.zeroPc : (Try.prog.info? 60).bind (·.zero) = some (.agg Pc.zero.cells.toArray) := by kernel_rfl
theorem Pc.one (q : Pc) : ∀ v ∈ q.cells, v.oneCell' = true := by
  intro v hv
  simp only [Pc.cells, List.mem_cons, List.not_mem_nil, or_false] at hv
  rcases hv with rfl | rfl | rfl | rfl | rfl <;> rfl
theorem range_of {w : World} {b o : Nat} (cs : List Value) (h : ∀ j, j < cs.length → w.cell? ⟨b, o + j, none⟩ = some (cs.getD j .nilIface)) : w.rangeAt b o cs := fun j v hj => by
  have hl : j < cs.length := (List.getElem?_eq_some_iff.1 hj).1
  rw [h j hl, ← hj]
  simp [List.getD, List.getElem?_eq_getElem hl]
theorem leave_small {c : Pa} (h : c.small) (f : Wt → Bool) : (leaveP c f).small := by
  have hf : ∀ l : List Wt, l.length ≤ 900000 → (l.filter fun x => !f x).length ≤ 900000 := fun l hl => Nat.le_trans (List.length_filter_le _ _) hl
  refine ⟨h.me, h.pr, by simpa [leaveP] using h.bo, by simpa [leaveP] using h.bu, by simpa [leaveP] using h.se, by simpa [leaveP] using h.ev, h.sa, h.qu, h.ll, h.gi, ?_, ?_, ?_, ?_, h.qul⟩
  · intro x hx
    obtain ⟨y, hy, rfl⟩ := List.mem_map.1 hx
    exact hf _ (h.bol y hy)
  · intro x hx
    obtain ⟨y, hy, rfl⟩ := List.mem_map.1 hx
    exact ⟨hf _ (h.bul y hy).1, (h.bul y hy).2⟩
  · intro x hx
    obtain ⟨y, hy, rfl⟩ := List.mem_map.1 hx
    exact hf _ (h.sel y hy)
  · intro x hx
    obtain ⟨y, hy, rfl⟩ := List.mem_map.1 hx
    exact hf _ (h.evl y hy)
theorem deed_small {c : Pa} (h : c.small) (i : Int) (f : Px → Dd) : (deedP c i f).1.small := by
  unfold deedP
  split
  · exact ⟨h.me, by simpa using h.pr, h.bo, h.bu, h.se, h.ev, h.sa, h.qu, h.ll, h.gi, h.bol, h.bul, h.sel, h.evl, h.qul⟩
  · exact h

theorem Try.entersStart : ∀ args w, (callFunc 46 args).run Try.prog w = .ok (.enter 46 args) w := enters_of Try.func46 (by kernel_rfl) rfl

theorem Try.entersBlock : ∀ args w, (callFunc 58 args).run Try.prog w = .ok (.enter 58 args) w := enters_of Try.func58 (by kernel_rfl) rfl

theorem Try.entersGo : ∀ args w, (callFunc 77 args).run Try.prog w = .ok (.enter 77 args) w := enters_of Try.func77 (by kernel_rfl) rfl

set_option maxRecDepth 100000 in
set_option maxHeartbeats 1600000 in
theorem block_api {q : PaV} {c : Pa} {i ki ob un ca : Int} {w : World} (ha : PaAt w q c) (hn : c.small) :
    Calls Try.prog 41 #[q.val, .int .i64 i, .int .i64 ki, .int .i64 ob, .int .i64 un, .int .i64 ca] w fun e w' => ∃ q', e = .returned (PaV.val q') ∧ PaO w' w.heap.size q' (blockP c i ki ob un ca) ∧ Below w.heap.size w w' := by
  have HA := hid ha
  have HN := hid hn
  clear ha hn
  go_enter Try.func41, Try.ntmps41
  go_wp2_with (first
  | (refine wpList_box rfl 39 _ rfl q.cells.toArray rfl ?_
     intro w1 b1 h1 z1
     have PB := hid (show PaB w1 (w.heap.size) q from b1)
     have HBc := hid h1
     clear b1 h1)
  | (refine wpList_box1 rfl 3 _ rfl (.int .i64 ki) rfl rfl ?_
     intro w2 b2 h2 z2
     rw [z1] at b2
     have PB := hid (show PaB w2 w.heap.size q from BoxAt.belowAll PB.out h2)
     have I1 := hid b2
     have HBc := hid (HBc.out.trans (h2.mono (by omega)))
     clear b2 h2)
  | (refine wpList_box1 rfl 3 _ rfl (.int .i64 ob) rfl rfl ?_
     intro w3 b3 h3 z3
     rw [z2, z1] at b3
     have PB := hid (show PaB w3 w.heap.size q from BoxAt.belowAll PB.out h3)
     have I1 := hid (I1.out.belowAll h3)
     have I2 := hid b3
     have HBc := hid (HBc.out.trans (h3.mono (by omega)))
     clear b3 h3)
  | (refine wpList_box1 rfl 3 _ rfl (.int .i64 un) rfl rfl ?_
     intro w4 b4 h4 z4
     rw [z3, z2, z1] at b4
     have PB := hid (show PaB w4 w.heap.size q from BoxAt.belowAll PB.out h4)
     have I1 := hid (I1.out.belowAll h4)
     have I2 := hid (I2.out.belowAll h4)
     have I3 := hid b4
     have HBc := hid (HBc.out.trans (h4.mono (by omega)))
     clear b4 h4)
  | (refine wpList_box1 rfl 3 _ rfl (.int .i64 ca) rfl rfl ?_
     intro w5 b5 h5 z5
     rw [z4, z3, z2, z1] at b5
     have PB := hid (show PaB w5 w.heap.size q from BoxAt.belowAll PB.out h5)
     have I1 := hid (I1.out.belowAll h5)
     have I2 := hid (I2.out.belowAll h5)
     have I3 := hid (I3.out.belowAll h5)
     have I4 := hid b5
     have HBc := hid (HBc.out.trans (h5.mono (by omega)))
     clear b5 h5)
  | (refine wpList_new rfl 39 rfl _ Try.zeroPa ?_
     intro w6 b6 h6 z6
     rw [z5, z4, z3, z2, z1] at b6
     have PB := hid (show PaB w6 w.heap.size q from BoxAt.belowAll PB.out h6)
     have I1 := hid (I1.out.belowAll h6)
     have I2 := hid (I2.out.belowAll h6)
     have I3 := hid (I3.out.belowAll h6)
     have I4 := hid (I4.out.belowAll h6)
     have RB := hid b6
     have HBc := hid (HBc.out.trans (h6.mono (by omega)))
     clear b6 h6)
  | (refine wpList_load_box rfl 39 _ rfl (w.heap.size) rfl _ _ PB.out _ Try.underlying39 Try.infoPa ?_)
  | fail)
  refine (change_any i 58 #[.pointer (some ⟨w.heap.size + 1, 0, none⟩), .pointer (some ⟨w.heap.size + 1 + 1, 0, none⟩), .pointer (some ⟨w.heap.size + 1 + 1 + 1, 0, none⟩), .pointer (some ⟨w.heap.size + 1 + 1 + 1 + 1, 0, none⟩)] (blockD ki ob un ca) Try.entersBlock (HA.out.below HBc.out) HN.out (fun W hW base g cap j L P O r q2 hp => block_any hp ki ob un ca (w.heap.size + 1) (w.heap.size + 1 + 1) (w.heap.size + 1 + 1 + 1) (w.heap.size + 1 + 1 + 1 + 1) (I1.out.belowAll hW) (I2.out.belowAll hW) (I3.out.belowAll hW) (I4.out.belowAll hW))).mono ?_
  rintro e wv ⟨q', rfl, ho, hb⟩
  have HO := hid (ho.mono HBc.out.size)
  have RB := hid (RB.out.belowAll hb)
  have hsz : w.heap.size + 6 ≤ wv.heap.size := by have := hb.size; omega
  have HBc := hid (HBc.out.trans (hb.mono HBc.out.size))
  clear ho hb
  go_wp2_with (first
  | (refine wpList_new rfl 39 rfl _ Try.zeroPa ?_
     intro wx b h z
     have XB := hid b
     have RB := hid (RB.out.belowAll h)
     have HBc := hid (HBc.out.trans (h.mono (by omega)))
     have HO := hid (HO.out.below h)
     clear b h)
  | (refine wpList_store_whole rfl 39 _ _ rfl rfl wv.heap.size rfl (PaV.cells q') rfl _ _ XB.out rfl Try.infoPa (PaV.one _) ?_
     intro wy b g z
     have HT := hid (Turns.grown (S := fun t => t = 39) XB.out b rfl g)
     have XB := hid b
     have RB := hid (RB.out.grown g (fun e => by have := Option.some.inj e; omega))
     have HBc := hid (HBc.out.trans (grown_below g (by omega) (by omega)))
     have HO := hid (HO.out.turn HT.out)
     clear b g HT)
  | (refine wpList_load_box rfl 39 _ rfl wv.heap.size rfl _ _ XB.out _ Try.underlying39 Try.infoPa ?_)
  | (refine wpList_store_whole rfl 39 _ _ rfl rfl (w.heap.size + 1 + 1 + 1 + 1 + 1) rfl (PaV.cells q') rfl _ _ RB.out rfl Try.infoPa (PaV.one _) ?_
     intro wz b g z
     have HT := hid (Turns.grown (S := fun t => t = 39) RB.out b rfl g)
     have RB := hid b
     have HBc := hid (HBc.out.trans (grown_below g (by omega) (by omega)))
     have HO := hid (HO.out.turn HT.out)
     clear b g z HT))
  refine bodyPost_ret (results_cell_row rfl _ _ (w.heap.size + 1 + 1 + 1 + 1 + 1) 39 _ (0, 0) _ rfl RB.out Try.underlying39 rfl Try.infoPa) rfl ?_
  exact ⟨q', rfl, HO.out, HBc.out⟩

set_option maxRecDepth 100000 in
set_option maxHeartbeats 1600000 in
theorem go_api {q : PaV} {c : Pa} {k : Wk} {w : World} (ha : PaAt w q c) (hn : c.small) :
    Calls Try.prog 52 #[q.val, k.val] w fun e w' => ∃ q', e = .returned (PaV.val q') ∧ PaO w' w.heap.size q' (goP c k.p k.c k.v) ∧ Below w.heap.size w w' := by
  have HA := hid ha
  have HN := hid hn
  clear ha hn
  go_enter Try.func52, Try.ntmps52
  go_wp2_with (first
  | (refine wpList_box rfl 39 _ rfl q.cells.toArray rfl ?_
     intro w1 b1 h1 z1
     have PB := hid (show PaB w1 (w.heap.size) q from b1)
     have HBc := hid h1
     clear b1 h1)
  | (refine wpList_box rfl 92 _ rfl #[.int .i64 k.p, .int .i64 k.c, .int .i64 k.v] rfl ?_
     intro w2 b2 h2 z2
     rw [z1] at b2
     have PB := hid (show PaB w2 w.heap.size q from BoxAt.belowAll PB.out h2)
     have KB := hid b2
     have HBc := hid (HBc.out.trans (h2.mono (by omega)))
     clear b2 h2)
  | (refine wpList_new rfl 39 rfl _ Try.zeroPa ?_
     intro w3 b3 h3 z3
     rw [z2, z1] at b3
     have PB := hid (show PaB w3 w.heap.size q from BoxAt.belowAll PB.out h3)
     have KB := hid (KB.out.belowAll h3)
     have RB := hid b3
     have HBc := hid (HBc.out.trans (h3.mono (by omega)))
     clear b3 h3
     have kc : w3.cell? ⟨w.heap.size + 1, 0, none⟩ = some (.int .i64 k.p) := (KB.out.cell 0).trans rfl)
  | (refine wpList_load_box rfl 39 _ rfl (w.heap.size) rfl _ _ PB.out _ Try.underlying39 Try.infoPa ?_)
  | fail)
  refine (change_any k.p 77 #[.pointer (some ⟨w.heap.size + 1, 0, none⟩)] (goD k.c k.v) Try.entersGo (HA.out.below HBc.out) HN.out (fun W hW base g cap j L P O r q2 hp => go_any hp k.p k.c k.v (w.heap.size + 1) (KB.out.belowAll hW))).mono ?_
  rintro e wv ⟨q', rfl, ho, hb⟩
  have HO := hid (ho.mono HBc.out.size)
  have RB := hid (RB.out.belowAll hb)
  have hsz : w.heap.size + 3 ≤ wv.heap.size := by have := hb.size; omega
  have HBc := hid (HBc.out.trans (hb.mono HBc.out.size))
  clear ho hb
  go_wp2_with (first
  | (refine wpList_new rfl 39 rfl _ Try.zeroPa ?_
     intro wx b h z
     have XB := hid b
     have RB := hid (RB.out.belowAll h)
     have HBc := hid (HBc.out.trans (h.mono (by omega)))
     have HO := hid (HO.out.below h)
     clear b h)
  | (refine wpList_store_whole rfl 39 _ _ rfl rfl wv.heap.size rfl (PaV.cells q') rfl _ _ XB.out rfl Try.infoPa (PaV.one _) ?_
     intro wy b g z
     have HT := hid (Turns.grown (S := fun t => t = 39) XB.out b rfl g)
     have XB := hid b
     have RB := hid (RB.out.grown g (fun e => by have := Option.some.inj e; omega))
     have HBc := hid (HBc.out.trans (grown_below g (by omega) (by omega)))
     have HO := hid (HO.out.turn HT.out)
     clear b g HT)
  | (refine wpList_load_box rfl 39 _ rfl wv.heap.size rfl _ _ XB.out _ Try.underlying39 Try.infoPa ?_)
  | (refine wpList_store_whole rfl 39 _ _ rfl rfl (w.heap.size + 1 + 1) rfl (PaV.cells q') rfl _ _ RB.out rfl Try.infoPa (PaV.one _) ?_
     intro wz b g z
     have HT := hid (Turns.grown (S := fun t => t = 39) RB.out b rfl g)
     have RB := hid b
     have HBc := hid (HBc.out.trans (grown_below g (by omega) (by omega)))
     have HO := hid (HO.out.turn HT.out)
     clear b g z HT))
  refine bodyPost_ret (results_cell_row rfl _ _ (w.heap.size + 1 + 1) 39 _ (0, 0) _ rfl RB.out Try.underlying39 rfl Try.infoPa) rfl ?_
  exact ⟨q', rfl, HO.out, HBc.out⟩

end Go.Proofs.Ytdanfnbclbiidaa
