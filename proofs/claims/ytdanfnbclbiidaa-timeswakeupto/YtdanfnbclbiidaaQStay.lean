/-
  What strikes waits out of a list, out of an object, and out of all objects of a kind.
-/
import Derived.Test.YtdanfnbclbiidaaQDel
import Derived.Test.YtdanfnbclbiidaaQDo
import Derived.Deep.RegionHeld3
namespace Go.Proofs.Ytdanfnbclbiidaa
open Go.RowKit
set_option linter.unusedVariables false

theorem of_drew {B : Nat} {w w' : World} (h : Below B w.drew w') : Below B w w' := ⟨h.os, h.tape.trans (World.tape_drew w), h.output, h.size, h.block⟩

set_option maxRecDepth 100000 in
set_option maxHeartbeats 1600000 in
theorem stay_any {v : Value} {l : List Wt} {w : World} {Lv : Nat} (gl : Nat) (cs : Array Value) (f : Wt → Bool) (eg : ∀ args w, (callFunc gl args).run Try.prog w = .ok (.enter gl args) w) (hv : SeesWt w v l) (hlen : l.length ≤ 900000) (hb : BoxAt w Lv 105 #[.func (.func gl) #[] cs]) (hp : TellsW gl cs f w.heap.size w) :
    Calls Try.prog 61 #[v, .pointer (some ⟨Lv, 0, none⟩)] w fun e w' => ∃ u, e = .returned u ∧ OWt w' w.heap.size u (l.filter fun x => !f x) ∧ Below w.heap.size w w' := by
  have HCl := hid (qclone_Wt (w := w.drew) hv hlen)
  have HN := hid hlen
  have B0 := hid (BoxAt.drew hb)
  have HT : Hid (TellsW gl cs f w.drew.heap.size w.drew) := hid (fun W hW x => hp W ⟨hW.os, hW.tape, hW.output, hW.size, hW.block⟩ x)
  clear hv hlen hb hp
  go_enter Try.func61, Try.ntmps61
  go_wp2_with fail
  refine wp_region_held_drew (S := (fun w' => BoxAt w' Lv 105 #[.func (.func gl) #[] cs])) (by kernel_rfl) (B0.out) (fun hHeld => ?_)
  refine wpAnyH_take (i := 0) (oi := { dst := some 4, op := Op.move (Operand.tmp 0), type := 65, pos := "procs.go:174", after := #[], guard := none }) (v := ?_) rfl (by kernel_rfl) (by kernel_rfl) (by kernel_rfl) (fun _ _ _ h => h) (Or.inl ⟨by rfl, ?_⟩) (by assumption) ?_
  rotate_left
  · (intro w hSw; (try dsimp only at hSw); go_simp; try with_reducible rfl)
  simp only [Act.put, List.setIfInBounds_toArray, List.set_cons_zero, List.set_cons_succ]
  refine wpAnyH_take (i := 2) (oi := { dst := some 6, op := Op.load 105 (Operand.tmp 1), type := 105, pos := "procs.go:174", after := #[], guard := none }) (v := ?_) rfl (by kernel_rfl) (by kernel_rfl) (by kernel_rfl) (fun _ _ _ h => h) (Or.inl ⟨by rfl, ?_⟩) (by assumption) ?_
  rotate_left
  · (intro w hSw; (try dsimp only at hSw); have k0 : w.cell? ⟨Lv, 0, none⟩ = some (.func (.func gl) #[] cs) := (BoxAt.cell hSw 0).trans rfl; go_simp; try with_reducible rfl)
  simp only [Act.put, List.setIfInBounds_toArray, List.set_cons_zero, List.set_cons_succ]
  refine wpAnyH_ready (rs := [1]) (by kernel_rfl) (by simp) (AllReadyH.cons (o := { dst := some 5, op := Op.call { callee := Callee.value (Operand.func 63), args := #[Operand.tmp 4], argTypes := #[65] }, type := 65, pos := "procs.go:174", after := #[{ on := 0, ground := Ground.data }], guard := none }) rfl (fun K3 hK3 => ?_) AllReadyH.nil)
  go_simp
  refine (HCl.out).mono ?_
  rintro e w1 ⟨u, rfl, ho, hb⟩
  have B1 := hid (B0.out.belowAll hb)
  have HO := hid ho
  have HB := hid hb
  have HT1 := hid ((HT.out.on hb))
  clear ho hb
  refine hK3.out _ _ (B1.out) (fun hHeld3 => ?_)
  clear hK3 K3
  try simp only [Act.put, List.setIfInBounds_toArray, List.set_cons_zero, List.set_cons_succ]
  refine wpAnyH_ready (rs := [3]) (by kernel_rfl) (by simp) (AllReadyH.cons (o := { dst := some 7, op := Op.call { callee := Callee.value (Operand.func 62), args := #[Operand.tmp 5, Operand.tmp 6], argTypes := #[65, 105] }, type := 65, pos := "procs.go:174", after := #[{ on := 1, ground := Ground.data }, { on := 2, ground := Ground.data }, { on := 1, ground := Ground.chain }], guard := none }) rfl (fun K4 hK4 => ?_) AllReadyH.nil)
  go_simp
  refine (delete_Wt gl cs f eg HO.out HB.out.size HN.out HT1.out).mono ?_
  rintro e w2 ⟨u2, rfl, ho2, hb2⟩
  have HO2 := hid ho2
  have HB2 := hid (HB.out.trans hb2)
  have B2 := hid (B1.out.below hb2 B0.out.lt)
  clear ho2 hb2
  refine hK4.out _ _ (B2.out) (fun hHeld4 => ?_)
  clear hK4 K4
  try simp only [Act.put, List.setIfInBounds_toArray, List.set_cons_zero, List.set_cons_succ]
  refine wpAnyH_take (i := 4) (oi := { dst := some 3, op := Op.assign (Operand.tmp 7), type := 65, pos := "procs.go:174", after := #[{ on := 3, ground := Ground.data }, { on := 3, ground := Ground.chain }, { on := 0, ground := Ground.phase }, { on := 1, ground := Ground.phase }, { on := 2, ground := Ground.phase }, { on := 3, ground := Ground.phase }], guard := none }) (v := ?_) rfl (by kernel_rfl) (by kernel_rfl) (by kernel_rfl) (fun _ _ _ h => h) (Or.inl ⟨by rfl, ?_⟩) (by assumption) ?_
  rotate_left
  · (intro w hSw; (try dsimp only at hSw); go_simp; try with_reducible rfl)
  simp only [Act.put, List.setIfInBounds_toArray, List.set_cons_zero, List.set_cons_succ]
  refine wpAnyH_done (by kernel_rfl) ?_ _
  clear hHeld hHeld3 hHeld4
  go_wp2
  go_ret
  exact ⟨_, rfl, HO2.out, of_drew HB2.out⟩

/-- What strikes, and what tells it, as they lie in their boxes. -/
structure StayB (w : World) (St Lv gl : Nat) (cs : Array Value) (f : Wt → Bool) : Prop where
  st : BoxAt w St 112 #[.func (.func 61) #[] #[.pointer (some ⟨Lv, 0, none⟩)]]
  lv : BoxAt w Lv 105 #[.func (.func gl) #[] cs]
  te : TellsW gl cs f w.heap.size w
theorem StayB.below {w w' : World} {St Lv gl : Nat} {cs : Array Value} {f : Wt → Bool} (h : StayB w St Lv gl cs f) (hb : Below w.heap.size w w') : StayB w' St Lv gl cs f :=
  ⟨h.st.belowAll hb, h.lv.belowAll hb, (h.te.on hb).mono hb.size⟩
theorem Try.stayEnters : ∀ args w, (callFunc 61 args).run Try.prog w = .ok (.enter 61 args) w := enters_of Try.func61 (by kernel_rfl) rfl

theorem Try.infoBdV : (Try.prog.info? 67).map (·.size) = some 3 := by kernel_rfl
theorem Try.zeroBdV : (Try.prog.info? 67).bind (·.zero) = some (.agg BdV.zero.cells.toArray) := by kernel_rfl
theorem BdV.one (q : BdV) : ∀ v ∈ q.cells, v.oneCell' = true := by
  intro v hv
  simp only [BdV.cells, List.mem_cons, List.not_mem_nil, or_false] at hv
  rcases hv with rfl | rfl | rfl <;> rfl

set_option maxRecDepth 100000 in
set_option maxHeartbeats 1600000 in
theorem become_Bd {q : BdV} {x : Bd} {w : World} (St Lv gl : Nat) (cs : Array Value) (f : Wt → Bool) (eg : ∀ args w, (callFunc gl args).run Try.prog w = .ok (.enter gl args) w) (hS : StayB w St Lv gl cs f) (hq : BdAt w q x) (hlen : x.l.length ≤ 900000) :
    Calls Try.prog 67 #[q.val, .pointer (some ⟨St, 0, none⟩)] w fun e w' => ∃ q', e = .returned (BdV.val q') ∧ BdO w' w.heap.size q' { x with l := x.l.filter fun y => !f y } ∧ Below w.heap.size w w' := by
  have es := Try.stayEnters
  have HS := hid hS
  clear hS
  have HQ := hid hq
  have HN := hid hlen
  clear hq hlen
  go_enter Try.func67, Try.ntmps67
  go_wp2_with (first
  | (refine wpList_box rfl 67 _ rfl q.cells.toArray rfl ?_
     intro w1 b1 h1 z1
     have B1 := hid b1
     have HB1 := hid h1
     have HS := hid (HS.out.below h1)
     clear b1 h1)
  | (refine wpList_new rfl 67 rfl _ Try.zeroBdV ?_
     intro w2 b2 h2 z2
     have hb2 := HB1.out.trans (h2.mono (by omega))
     have HB2 := hid hb2
     have B2 := hid b2
     have B1 := hid (B1.out.belowAll h2)
     have HS := hid (HS.out.below h2)
     have kc2 : w2.cell? ⟨w.heap.size, 2, none⟩ = some (.slice q.l.a q.l.n q.l.c) := (B1.out.cell 2).trans rfl
     have kst : w2.cell? ⟨St, 0, none⟩ = some (.func (.func 61) #[] #[.pointer (some ⟨Lv, 0, none⟩)]) := (HS.out.st.cell 0).trans rfl
     have hz2 : w2.heap.size = w.heap.size + 1 + 1 := by omega
     rw [z1] at B2
     clear b2 h2 hb2)
  | fail)
  refine (stay_any gl cs f eg (HQ.out.l.below HB2.out) HN.out HS.out.lv HS.out.te).mono ?_
  rintro e w3 ⟨u, rfl, ho, hb3⟩
  obtain ⟨a, cap, rfl, hc1, hc2, _⟩ := ho.sees.form
  have B1 := hid (B1.out.belowAll hb3)
  have B2 := hid (B2.out.belowAll hb3)
  have HB3 := hid (HB2.out.trans (hb3.mono HB2.out.size))
  have HO := hid (ho.mono HB2.out.size)
  have hs3 : w.heap.size + 1 + 1 ≤ w3.heap.size := by have := hb3.size; omega
  clear ho hb3 hc1 hc2
  go_wp2_with (first
  | (refine wpList_store_box rfl 65 _ _ rfl rfl w.heap.size 2 (.slice a (x.l.filter fun y => !f y).length cap) rfl rfl rfl rfl (by kernel_rfl) _ _ B1.out (by simp [BdV.cells]) ?_
     intro w4 b4 g4 z4
     have HT4 := hid (Turns.grown (S := fun t => t = 67) B1.out b4 rfl g4)
     have B1 := hid (show BoxAt w4 w.heap.size 67 (BdV.cells { q with l := ⟨a, (x.l.filter fun y => !f y).length, cap⟩ }).toArray by simpa [BdV.cells] using b4)
     have B2 := hid (B2.out.grown g4 (by simp))
     have HB4 := hid (HB3.out.trans (grown_below g4 (Nat.le_refl _) (by omega)))
     have HO4 := hid (HO.out.turn (S := fun t => t = 67) (by decide) HT4.out)
     clear b4 g4)
  | (refine wpList_load_box rfl 67 _ rfl w.heap.size rfl _ _ B1.out _ Try.underlying67 Try.infoBdV ?_)
  | (refine wpList_store_whole rfl 67 _ _ rfl rfl (w.heap.size + 1) rfl (BdV.cells { q with l := ⟨a, (x.l.filter fun y => !f y).length, cap⟩ }) rfl _ _ B2.out rfl Try.infoBdV (BdV.one _) ?_
     intro w5 b5 g5 z5
     have B5 := hid b5
     have HB5 := hid (HB4.out.trans (grown_below g5 (by omega) (by omega)))
     have HO5 := hid (HO4.out.turn (S := fun t => t = 67) (by decide) (Turns.grown B2.out b5 rfl g5))
     clear b5 g5))
  refine bodyPost_ret (results_cell_row rfl _ _ (w.heap.size + 1) 67 _ (0, 0) _ rfl B5.out Try.underlying67 rfl Try.infoBdV) rfl ?_
  exact ⟨{ q with l := ⟨a, (x.l.filter fun y => !f y).length, cap⟩ }, rfl, ⟨HQ.out.is, HQ.out.v, HO5.out⟩, HB5.out⟩

theorem Try.infoSeV : (Try.prog.info? 71).map (·.size) = some 4 := by kernel_rfl
theorem Try.zeroSeV : (Try.prog.info? 71).bind (·.zero) = some (.agg SeV.zero.cells.toArray) := by kernel_rfl
theorem SeV.one (q : SeV) : ∀ v ∈ q.cells, v.oneCell' = true := by
  intro v hv
  simp only [SeV.cells, List.mem_cons, List.not_mem_nil, or_false] at hv
  rcases hv with rfl | rfl | rfl | rfl <;> rfl

set_option maxRecDepth 100000 in
set_option maxHeartbeats 1600000 in
theorem become_Se {q : SeV} {x : Se} {w : World} (St Lv gl : Nat) (cs : Array Value) (f : Wt → Bool) (eg : ∀ args w, (callFunc gl args).run Try.prog w = .ok (.enter gl args) w) (hS : StayB w St Lv gl cs f) (hq : SeAt w q x) (hlen : x.l.length ≤ 900000) :
    Calls Try.prog 71 #[q.val, .pointer (some ⟨St, 0, none⟩)] w fun e w' => ∃ q', e = .returned (SeV.val q') ∧ SeO w' w.heap.size q' { x with l := x.l.filter fun y => !f y } ∧ Below w.heap.size w w' := by
  have es := Try.stayEnters
  have HS := hid hS
  clear hS
  have HQ := hid hq
  have HN := hid hlen
  clear hq hlen
  go_enter Try.func71, Try.ntmps71
  go_wp2_with (first
  | (refine wpList_box rfl 71 _ rfl q.cells.toArray rfl ?_
     intro w1 b1 h1 z1
     have B1 := hid b1
     have HB1 := hid h1
     have HS := hid (HS.out.below h1)
     clear b1 h1)
  | (refine wpList_new rfl 71 rfl _ Try.zeroSeV ?_
     intro w2 b2 h2 z2
     have hb2 := HB1.out.trans (h2.mono (by omega))
     have HB2 := hid hb2
     have B2 := hid b2
     have B1 := hid (B1.out.belowAll h2)
     have HS := hid (HS.out.below h2)
     have kc3 : w2.cell? ⟨w.heap.size, 3, none⟩ = some (.slice q.l.a q.l.n q.l.c) := (B1.out.cell 3).trans rfl
     have kst : w2.cell? ⟨St, 0, none⟩ = some (.func (.func 61) #[] #[.pointer (some ⟨Lv, 0, none⟩)]) := (HS.out.st.cell 0).trans rfl
     have hz2 : w2.heap.size = w.heap.size + 1 + 1 := by omega
     rw [z1] at B2
     clear b2 h2 hb2)
  | fail)
  refine (stay_any gl cs f eg (HQ.out.l.below HB2.out) HN.out HS.out.lv HS.out.te).mono ?_
  rintro e w3 ⟨u, rfl, ho, hb3⟩
  obtain ⟨a, cap, rfl, hc1, hc2, _⟩ := ho.sees.form
  have B1 := hid (B1.out.belowAll hb3)
  have B2 := hid (B2.out.belowAll hb3)
  have HB3 := hid (HB2.out.trans (hb3.mono HB2.out.size))
  have HO := hid (ho.mono HB2.out.size)
  have hs3 : w.heap.size + 1 + 1 ≤ w3.heap.size := by have := hb3.size; omega
  clear ho hb3 hc1 hc2
  go_wp2_with (first
  | (refine wpList_store_box rfl 65 _ _ rfl rfl w.heap.size 3 (.slice a (x.l.filter fun y => !f y).length cap) rfl rfl rfl rfl (by kernel_rfl) _ _ B1.out (by simp [SeV.cells]) ?_
     intro w4 b4 g4 z4
     have HT4 := hid (Turns.grown (S := fun t => t = 71) B1.out b4 rfl g4)
     have B1 := hid (show BoxAt w4 w.heap.size 71 (SeV.cells { q with l := ⟨a, (x.l.filter fun y => !f y).length, cap⟩ }).toArray by simpa [SeV.cells] using b4)
     have B2 := hid (B2.out.grown g4 (by simp))
     have HB4 := hid (HB3.out.trans (grown_below g4 (Nat.le_refl _) (by omega)))
     have HO4 := hid (HO.out.turn (S := fun t => t = 71) (by decide) HT4.out)
     clear b4 g4)
  | (refine wpList_load_box rfl 71 _ rfl w.heap.size rfl _ _ B1.out _ Try.underlying71 Try.infoSeV ?_)
  | (refine wpList_store_whole rfl 71 _ _ rfl rfl (w.heap.size + 1) rfl (SeV.cells { q with l := ⟨a, (x.l.filter fun y => !f y).length, cap⟩ }) rfl _ _ B2.out rfl Try.infoSeV (SeV.one _) ?_
     intro w5 b5 g5 z5
     have B5 := hid b5
     have HB5 := hid (HB4.out.trans (grown_below g5 (by omega) (by omega)))
     have HO5 := hid (HO4.out.turn (S := fun t => t = 71) (by decide) (Turns.grown B2.out b5 rfl g5))
     clear b5 g5))
  refine bodyPost_ret (results_cell_row rfl _ _ (w.heap.size + 1) 71 _ (0, 0) _ rfl B5.out Try.underlying71 rfl Try.infoSeV) rfl ?_
  exact ⟨{ q with l := ⟨a, (x.l.filter fun y => !f y).length, cap⟩ }, rfl, ⟨HQ.out.c, HQ.out.m, HQ.out.k, HO5.out⟩, HB5.out⟩

theorem Try.infoEvV : (Try.prog.info? 73).map (·.size) = some 2 := by kernel_rfl
theorem Try.zeroEvV : (Try.prog.info? 73).bind (·.zero) = some (.agg EvV.zero.cells.toArray) := by kernel_rfl
theorem EvV.one (q : EvV) : ∀ v ∈ q.cells, v.oneCell' = true := by
  intro v hv
  simp only [EvV.cells, List.mem_cons, List.not_mem_nil, or_false] at hv
  rcases hv with rfl | rfl <;> rfl

set_option maxRecDepth 100000 in
set_option maxHeartbeats 1600000 in
theorem become_Ev {q : EvV} {x : Ev} {w : World} (St Lv gl : Nat) (cs : Array Value) (f : Wt → Bool) (eg : ∀ args w, (callFunc gl args).run Try.prog w = .ok (.enter gl args) w) (hS : StayB w St Lv gl cs f) (hq : EvAt w q x) (hlen : x.l.length ≤ 900000) :
    Calls Try.prog 73 #[q.val, .pointer (some ⟨St, 0, none⟩)] w fun e w' => ∃ q', e = .returned (EvV.val q') ∧ EvO w' w.heap.size q' { x with l := x.l.filter fun y => !f y } ∧ Below w.heap.size w w' := by
  have es := Try.stayEnters
  have HS := hid hS
  clear hS
  have HQ := hid hq
  have HN := hid hlen
  clear hq hlen
  go_enter Try.func73, Try.ntmps73
  go_wp2_with (first
  | (refine wpList_box rfl 73 _ rfl q.cells.toArray rfl ?_
     intro w1 b1 h1 z1
     have B1 := hid b1
     have HB1 := hid h1
     have HS := hid (HS.out.below h1)
     clear b1 h1)
  | (refine wpList_new rfl 73 rfl _ Try.zeroEvV ?_
     intro w2 b2 h2 z2
     have hb2 := HB1.out.trans (h2.mono (by omega))
     have HB2 := hid hb2
     have B2 := hid b2
     have B1 := hid (B1.out.belowAll h2)
     have HS := hid (HS.out.below h2)
     have kc1 : w2.cell? ⟨w.heap.size, 1, none⟩ = some (.slice q.l.a q.l.n q.l.c) := (B1.out.cell 1).trans rfl
     have kst : w2.cell? ⟨St, 0, none⟩ = some (.func (.func 61) #[] #[.pointer (some ⟨Lv, 0, none⟩)]) := (HS.out.st.cell 0).trans rfl
     have hz2 : w2.heap.size = w.heap.size + 1 + 1 := by omega
     rw [z1] at B2
     clear b2 h2 hb2)
  | fail)
  refine (stay_any gl cs f eg (HQ.out.l.below HB2.out) HN.out HS.out.lv HS.out.te).mono ?_
  rintro e w3 ⟨u, rfl, ho, hb3⟩
  obtain ⟨a, cap, rfl, hc1, hc2, _⟩ := ho.sees.form
  have B1 := hid (B1.out.belowAll hb3)
  have B2 := hid (B2.out.belowAll hb3)
  have HB3 := hid (HB2.out.trans (hb3.mono HB2.out.size))
  have HO := hid (ho.mono HB2.out.size)
  have hs3 : w.heap.size + 1 + 1 ≤ w3.heap.size := by have := hb3.size; omega
  clear ho hb3 hc1 hc2
  go_wp2_with (first
  | (refine wpList_store_box rfl 65 _ _ rfl rfl w.heap.size 1 (.slice a (x.l.filter fun y => !f y).length cap) rfl rfl rfl rfl (by kernel_rfl) _ _ B1.out (by simp [EvV.cells]) ?_
     intro w4 b4 g4 z4
     have HT4 := hid (Turns.grown (S := fun t => t = 73) B1.out b4 rfl g4)
     have B1 := hid (show BoxAt w4 w.heap.size 73 (EvV.cells { q with l := ⟨a, (x.l.filter fun y => !f y).length, cap⟩ }).toArray by simpa [EvV.cells] using b4)
     have B2 := hid (B2.out.grown g4 (by simp))
     have HB4 := hid (HB3.out.trans (grown_below g4 (Nat.le_refl _) (by omega)))
     have HO4 := hid (HO.out.turn (S := fun t => t = 73) (by decide) HT4.out)
     clear b4 g4)
  | (refine wpList_load_box rfl 73 _ rfl w.heap.size rfl _ _ B1.out _ Try.underlying73 Try.infoEvV ?_)
  | (refine wpList_store_whole rfl 73 _ _ rfl rfl (w.heap.size + 1) rfl (EvV.cells { q with l := ⟨a, (x.l.filter fun y => !f y).length, cap⟩ }) rfl _ _ B2.out rfl Try.infoEvV (EvV.one _) ?_
     intro w5 b5 g5 z5
     have B5 := hid b5
     have HB5 := hid (HB4.out.trans (grown_below g5 (by omega) (by omega)))
     have HO5 := hid (HO4.out.turn (S := fun t => t = 73) (by decide) (Turns.grown B2.out b5 rfl g5))
     clear b5 g5))
  refine bodyPost_ret (results_cell_row rfl _ _ (w.heap.size + 1) 73 _ (0, 0) _ rfl B5.out Try.underlying73 rfl Try.infoEvV) rfl ?_
  exact ⟨{ q with l := ⟨a, (x.l.filter fun y => !f y).length, cap⟩ }, rfl, ⟨HQ.out.u, HO5.out⟩, HB5.out⟩

theorem Try.infoQuV : (Try.prog.info? 75).map (·.size) = some 3 := by kernel_rfl
theorem Try.zeroQuV : (Try.prog.info? 75).bind (·.zero) = some (.agg QuV.zero.cells.toArray) := by kernel_rfl
theorem QuV.one (q : QuV) : ∀ v ∈ q.cells, v.oneCell' = true := by
  intro v hv
  simp only [QuV.cells, List.mem_cons, List.not_mem_nil, or_false] at hv
  rcases hv with rfl | rfl | rfl <;> rfl

set_option maxRecDepth 100000 in
set_option maxHeartbeats 1600000 in
theorem become_Qu {q : QuV} {x : Qu} {w : World} (hq : QuAt w q x) (hlen : x.vs.length ≤ 900000) :
    Calls Try.prog 76 #[q.val] w fun e w' => ∃ q', e = .returned (QuV.val q') ∧ QuO w' w.heap.size q' x ∧ Below w.heap.size w w' := by
  have HQ := hid hq
  have HN := hid hlen
  clear hq hlen
  go_enter Try.func76, Try.ntmps76
  go_wp2_with (first
  | (refine wpList_box rfl 75 _ rfl q.cells.toArray rfl ?_
     intro w1 b1 h1 z1
     have B1 := hid b1
     have HB1 := hid h1
     clear b1 h1)
  | (refine wpList_new rfl 75 rfl _ Try.zeroQuV ?_
     intro w2 b2 h2 z2
     have hb2 := HB1.out.trans (h2.mono (by omega))
     have HB2 := hid hb2
     have B2 := hid b2
     have B1 := hid (B1.out.belowAll h2)
     have kc1 : w2.cell? ⟨w.heap.size, 1, none⟩ = some (.slice q.vs.a q.vs.n q.vs.c) := (B1.out.cell 1).trans rfl
     have hz2 : w2.heap.size = w.heap.size + 1 + 1 := by omega
     rw [z1] at B2
     clear b2 h2 hb2)
  | fail)
  refine (qclone_int (HQ.out.vs.below HB2.out) HN.out).mono ?_
  rintro e w3 ⟨u, rfl, ho, hb3⟩
  obtain ⟨a, cap, rfl, hc1, hc2, _⟩ := ho.sees.form
  have B1 := hid (B1.out.belowAll hb3)
  have B2 := hid (B2.out.belowAll hb3)
  have HB3 := hid (HB2.out.trans (hb3.mono HB2.out.size))
  have HO := hid (ho.mono HB2.out.size)
  have hs3 : w.heap.size + 1 + 1 ≤ w3.heap.size := by have := hb3.size; omega
  clear ho hb3 hc1 hc2
  go_wp2_with (first
  | (refine wpList_store_box rfl 26 _ _ rfl rfl w.heap.size 1 (.slice a x.vs.length cap) rfl rfl rfl rfl (by kernel_rfl) _ _ B1.out (by simp [QuV.cells]) ?_
     intro w4 b4 g4 z4
     have HT4 := hid (Turns.grown (S := fun t => t = 75) B1.out b4 rfl g4)
     have B1 := hid (show BoxAt w4 w.heap.size 75 (QuV.cells { q with vs := ⟨a, x.vs.length, cap⟩ }).toArray by simpa [QuV.cells] using b4)
     have B2 := hid (B2.out.grown g4 (by simp))
     have HB4 := hid (HB3.out.trans (grown_below g4 (Nat.le_refl _) (by omega)))
     have HO4 := hid (HO.out.turn (S := fun t => t = 75) (by decide) HT4.out)
     clear b4 g4)
  | (refine wpList_load_box rfl 75 _ rfl w.heap.size rfl _ _ B1.out _ Try.underlying75 Try.infoQuV ?_)
  | (refine wpList_store_whole rfl 75 _ _ rfl rfl (w.heap.size + 1) rfl (QuV.cells { q with vs := ⟨a, x.vs.length, cap⟩ }) rfl _ _ B2.out rfl Try.infoQuV (QuV.one _) ?_
     intro w5 b5 g5 z5
     have B5 := hid b5
     have HB5 := hid (HB4.out.trans (grown_below g5 (by omega) (by omega)))
     have HO5 := hid (HO4.out.turn (S := fun t => t = 75) (by decide) (Turns.grown B2.out b5 rfl g5))
     clear b5 g5))
  refine bodyPost_ret (results_cell_row rfl _ _ (w.heap.size + 1) 75 _ (0, 0) _ rfl B5.out Try.underlying75 rfl Try.infoQuV) rfl ?_
  exact ⟨{ q with vs := ⟨a, x.vs.length, cap⟩ }, rfl, ⟨HQ.out.d, HO5.out, HQ.out.x⟩, HB5.out⟩

theorem Try.infoBfV : (Try.prog.info? 69).map (·.size) = some 4 := by kernel_rfl
theorem Try.zeroBfV : (Try.prog.info? 69).bind (·.zero) = some (.agg BfV.zero.cells.toArray) := by kernel_rfl
theorem BfV.one (q : BfV) : ∀ v ∈ q.cells, v.oneCell' = true := by
  intro v hv
  simp only [BfV.cells, List.mem_cons, List.not_mem_nil, or_false] at hv
  rcases hv with rfl | rfl | rfl | rfl <;> rfl

set_option maxRecDepth 100000 in
set_option maxHeartbeats 1600000 in
theorem become_Bf {q : BfV} {x : Bf} {w : World} (St Lv gl : Nat) (cs : Array Value) (f : Wt → Bool) (eg : ∀ args w, (callFunc gl args).run Try.prog w = .ok (.enter gl args) w) (hS : StayB w St Lv gl cs f) (hq : BfAt w q x) (hlen : x.l.length ≤ 900000 ∧ x.vs.length ≤ 900000) :
    Calls Try.prog 69 #[q.val, .pointer (some ⟨St, 0, none⟩)] w fun e w' => ∃ q', e = .returned (BfV.val q') ∧ BfO w' w.heap.size q' { x with l := x.l.filter fun y => !f y } ∧ Below w.heap.size w w' := by
  have es := Try.stayEnters
  have HS := hid hS
  clear hS
  have HQ := hid hq
  have HN := hid hlen
  clear hq hlen
  go_enter Try.func69, Try.ntmps69
  go_wp2_with (first
  | (refine wpList_box rfl 69 _ rfl q.cells.toArray rfl ?_
     intro w1 b1 h1 z1
     have B1 := hid b1
     have HB1 := hid h1
     have HS := hid (HS.out.below h1)
     clear b1 h1)
  | (refine wpList_new rfl 69 rfl _ Try.zeroBfV ?_
     intro w2 b2 h2 z2
     have hb2 := HB1.out.trans (h2.mono (by omega))
     have HB2 := hid hb2
     have B2 := hid b2
     have B1 := hid (B1.out.belowAll h2)
     have HS := hid (HS.out.below h2)
     have kc2 : w2.cell? ⟨w.heap.size, 2, none⟩ = some (.slice q.vs.a q.vs.n q.vs.c) := (B1.out.cell 2).trans rfl
     have kc3 : w2.cell? ⟨w.heap.size, 3, none⟩ = some (.slice q.l.a q.l.n q.l.c) := (B1.out.cell 3).trans rfl
     have kst : w2.cell? ⟨St, 0, none⟩ = some (.func (.func 61) #[] #[.pointer (some ⟨Lv, 0, none⟩)]) := (HS.out.st.cell 0).trans rfl
     have hz2 : w2.heap.size = w.heap.size + 1 + 1 := by omega
     rw [z1] at B2
     clear b2 h2 hb2)
  | fail)
  have HS := hid (HS.out.below ((Below.refl _ _).drew))
  have B1 := hid (B1.out.drew)
  have B2 := hid (B2.out.drew)
  have HBn := hid (HB2.out.drew)
  have kc2 : w2.drew.cell? ⟨w.heap.size, 2, none⟩ = some (.slice q.vs.a q.vs.n q.vs.c) := (B1.out.cell 2).trans rfl
  have kc3 : w2.drew.cell? ⟨w.heap.size, 3, none⟩ = some (.slice q.l.a q.l.n q.l.c) := (B1.out.cell 3).trans rfl
  clear HB1 HB2
  refine wp_region_held_drew (S := (fun w' => BoxAt w' St 112 #[.func (.func 61) #[] #[.pointer (some ⟨Lv, 0, none⟩)]])) (by kernel_rfl) (HS.out.st) (fun hHeld => ?_)
  refine wpAnyH_take (i := 0) (oi := { dst := some 4, op := Op.fieldAddr 69 (Operand.tmp 2) 2, type := 0, pos := "procs.go:182", after := #[], guard := none }) (v := ?_) rfl (by kernel_rfl) (by kernel_rfl) (by kernel_rfl) (fun _ _ _ h => h) (Or.inl ⟨by rfl, ?_⟩) (by assumption) ?_
  rotate_left
  · (intro w hSw; (try dsimp only at hSw); go_simp; try with_reducible rfl)
  simp only [Act.put, List.setIfInBounds_toArray, List.set_cons_zero, List.set_cons_succ]
  refine wpAnyH_take (i := 3) (oi := { dst := some 7, op := Op.load 112 (Operand.tmp 1), type := 112, pos := "procs.go:182", after := #[], guard := none }) (v := ?_) rfl (by kernel_rfl) (by kernel_rfl) (by kernel_rfl) (fun _ _ _ h => h) (Or.inl ⟨by rfl, ?_⟩) (by assumption) ?_
  rotate_left
  · (intro w hSw; (try dsimp only at hSw); have k0 : w.cell? ⟨St, 0, none⟩ = some (.func (.func 61) #[] #[.pointer (some ⟨Lv, 0, none⟩)]) := (BoxAt.cell hSw 0).trans rfl; go_simp; try with_reducible rfl)
  simp only [Act.put, List.setIfInBounds_toArray, List.set_cons_zero, List.set_cons_succ]
  refine wpAnyH_take (i := 4) (oi := { dst := some 8, op := Op.fieldAddr 69 (Operand.tmp 2) 3, type := 0, pos := "procs.go:182", after := #[], guard := none }) (v := ?_) rfl (by kernel_rfl) (by kernel_rfl) (by kernel_rfl) (fun _ _ _ h => h) (Or.inl ⟨by rfl, ?_⟩) (by assumption) ?_
  rotate_left
  · (intro w hSw; (try dsimp only at hSw); go_simp; try with_reducible rfl)
  simp only [Act.put, List.setIfInBounds_toArray, List.set_cons_zero, List.set_cons_succ]
  refine wpAnyH_ready (rs := [1, 5]) (by kernel_rfl) (by simp) (AllReadyH.cons (o := { dst := some 5, op := Op.load 26 (Operand.tmp 4), type := 26, pos := "procs.go:182", after := #[{ on := 0, ground := Ground.data }], guard := none }) rfl (fun K4 hK4 => ?b4_1) (AllReadyH.cons (o := { dst := some 9, op := Op.load 65 (Operand.tmp 8), type := 65, pos := "procs.go:182", after := #[{ on := 4, ground := Ground.data }], guard := none }) rfl (fun K4 hK4 => ?b4_5) AllReadyH.nil))
  case' b4_1 =>
    go_simp
    refine hK4.out _ _ (HS.out.st) (fun hHeld4 => ?_)
    clear hK4 K4
    try simp only [Act.put, List.setIfInBounds_toArray, List.set_cons_zero, List.set_cons_succ]
    refine wpAnyH_ready (rs := [2, 5]) (by kernel_rfl) (by simp) (AllReadyH.cons (o := { dst := some 6, op := Op.call { callee := Callee.value (Operand.func 64), args := #[Operand.tmp 5], argTypes := #[26] }, type := 26, pos := "procs.go:182", after := #[{ on := 1, ground := Ground.data }], guard := none }) rfl (fun K5 hK5 => ?b5_2) (AllReadyH.cons (o := { dst := some 9, op := Op.load 65 (Operand.tmp 8), type := 65, pos := "procs.go:182", after := #[{ on := 4, ground := Ground.data }], guard := none }) rfl (fun K5 hK5 => ?b5_5) AllReadyH.nil))
    case' b5_2 =>
      go_simp
      refine (qclone_int (HQ.out.vs.below HBn.out) HN.out.2).mono ?_
      rintro e w11 ⟨u1, rfl, ho, hb⟩
      obtain ⟨a1, c1, rfl, hc1, hc2, _⟩ := ho.sees.form
      have HS := hid (HS.out.below hb)
      have B1 := hid (B1.out.belowAll hb)
      have B2 := hid (B2.out.belowAll hb)
      have HO1 := hid (ho.mono HBn.out.size)
      have HBn := hid (HBn.out.trans (hb.mono HBn.out.size))
      have hzz : w.heap.size + 1 + 1 ≤ w11.heap.size := by have h7 := hb.size; have h8 : w2.drew.heap.size = w2.heap.size := rfl; omega
      have kc2 : w11.cell? ⟨w.heap.size, 2, none⟩ = some (.slice q.vs.a q.vs.n q.vs.c) := (B1.out.cell 2).trans rfl
      have kc3 : w11.cell? ⟨w.heap.size, 3, none⟩ = some (.slice q.l.a q.l.n q.l.c) := (B1.out.cell 3).trans rfl
      clear ho hb hc1 hc2
      refine hK5.out _ _ (HS.out.st) (fun hHeld5 => ?_)
      clear hK5 K5
      try simp only [Act.put, List.setIfInBounds_toArray, List.set_cons_zero, List.set_cons_succ]
      refine wpAnyH_ready (rs := [5]) (by kernel_rfl) (by simp) (AllReadyH.cons (o := { dst := some 9, op := Op.load 65 (Operand.tmp 8), type := 65, pos := "procs.go:182", after := #[{ on := 4, ground := Ground.data }], guard := none }) rfl (fun K6 hK6 => ?_) AllReadyH.nil)
      go_simp
      refine hK6.out _ _ (HS.out.st) (fun hHeld6 => ?_)
      clear hK6 K6
      try simp only [Act.put, List.setIfInBounds_toArray, List.set_cons_zero, List.set_cons_succ]
      refine wpAnyH_take (i := 7) (oi := { dst := some 11, op := Op.fieldAddr 69 (Operand.tmp 2) 2, type := 0, pos := "procs.go:182", after := #[{ on := 0, ground := Ground.phase }, { on := 1, ground := Ground.phase }, { on := 2, ground := Ground.phase }, { on := 3, ground := Ground.textOnly Departure.lateStores }, { on := 4, ground := Ground.phase }, { on := 5, ground := Ground.phase }, { on := 6, ground := Ground.textOnly Departure.lateStoresUnsure }], guard := none }) (v := ?_) rfl (by kernel_rfl) (by kernel_rfl) (by kernel_rfl) (fun _ _ _ h => h) (Or.inl ⟨by rfl, ?_⟩) (by assumption) ?_
      rotate_left
      · (intro w hSw; (try dsimp only at hSw); go_simp; try with_reducible rfl)
      simp only [Act.put, List.setIfInBounds_toArray, List.set_cons_zero, List.set_cons_succ]
      refine wpAnyH_ready (rs := [6]) (by kernel_rfl) (by simp) (AllReadyH.cons (o := { dst := some 10, op := Op.call { callee := Callee.value (Operand.tmp 7), args := #[Operand.tmp 9], argTypes := #[65] }, type := 65, pos := "procs.go:182", after := #[{ on := 3, ground := Ground.data }, { on := 5, ground := Ground.data }, { on := 2, ground := Ground.chain }], guard := none }) rfl (fun K8 hK8 => ?_) AllReadyH.nil)
      go_simp
      refine (stay_any gl cs f eg (HQ.out.l.below HBn.out) HN.out.1 HS.out.lv HS.out.te).mono ?_
      rintro e w12 ⟨u2, rfl, ho, hb⟩
      obtain ⟨a2, c2, rfl, hc1, hc2, _⟩ := ho.sees.form
      have HS := hid (HS.out.below hb)
      have B1 := hid (B1.out.belowAll hb)
      have B2 := hid (B2.out.belowAll hb)
      have HO1 := hid (HO1.out.below hb)
      have HO2 := hid (ho.mono HBn.out.size)
      have HBn := hid (HBn.out.trans (hb.mono HBn.out.size))
      have hzz : w.heap.size + 1 + 1 ≤ w12.heap.size := by have h7 := hb.size; have h8 : w2.drew.heap.size = w2.heap.size := rfl; omega
      clear ho hb hc1 hc2
      refine hK8.out _ _ (HS.out.st) (fun hHeld8 => ?_)
      clear hK8 K8
      try simp only [Act.put, List.setIfInBounds_toArray, List.set_cons_zero, List.set_cons_succ]
      refine wpAnyH_ready (rs := [8]) (by kernel_rfl) (by simp) (AllReadyH.cons (o := { dst := none, op := Op.store 26 (Operand.tmp 11) (Operand.tmp 6), type := 0, pos := "procs.go:182", after := #[{ on := 7, ground := Ground.data }, { on := 2, ground := Ground.data }, { on := 6, ground := Ground.chain }, { on := 0, ground := Ground.phase }, { on := 1, ground := Ground.phase }, { on := 2, ground := Ground.phase }, { on := 3, ground := Ground.textOnly Departure.lateStores }, { on := 4, ground := Ground.phase }, { on := 5, ground := Ground.phase }, { on := 6, ground := Ground.textOnly Departure.lateStoresUnsure }], guard := none }) rfl (fun K9 hK9 => ?_) AllReadyH.nil)
      refine wp_store_box 26 _ _ rfl w.heap.size 2 (.slice a1 x.vs.length c1) rfl rfl rfl rfl (by kernel_rfl) _ _ B1.out (by simp [BfV.cells]) ?_
      intro w13 b4 g4 z4
      have HT4 := hid (Turns.grown (S := fun t => t = 69) B1.out b4 rfl g4)
      have HSt := hid (HS.out.st.turn (S := fun t => t = 69) (by decide) HT4.out)
      have B1 := hid (show BoxAt w13 w.heap.size 69 (BfV.cells { q with vs := ⟨a1, x.vs.length, c1⟩ }).toArray by simpa [BfV.cells] using b4)
      have B2 := hid (B2.out.grown g4 (by simp))
      have HBn := hid (HBn.out.trans (grown_below g4 (Nat.le_refl _) (by omega)))
      have HO1 := hid (HO1.out.turn (S := fun t => t = 69) (by decide) HT4.out)
      have HO2 := hid (HO2.out.turn (S := fun t => t = 69) (by decide) HT4.out)
      clear b4 g4
      refine hK9.out _ _ (HSt.out) (fun hHeld9 => ?_)
      clear hK9 K9
      try simp only [Act.put]
      refine wpAnyH_take (i := 9) (oi := { dst := some 12, op := Op.fieldAddr 69 (Operand.tmp 2) 3, type := 0, pos := "procs.go:182", after := #[{ on := 0, ground := Ground.phase }, { on := 1, ground := Ground.phase }, { on := 2, ground := Ground.phase }, { on := 3, ground := Ground.phase }, { on := 4, ground := Ground.phase }, { on := 5, ground := Ground.phase }, { on := 6, ground := Ground.phase }, { on := 7, ground := Ground.phase }, { on := 8, ground := Ground.phase }], guard := none }) (v := ?_) rfl (by kernel_rfl) (by kernel_rfl) (by kernel_rfl) (fun _ _ _ h => h) (Or.inl ⟨by rfl, ?_⟩) (by assumption) ?_
      rotate_left
      · (intro w hSw; (try dsimp only at hSw); go_simp; try with_reducible rfl)
      simp only [Act.put, List.setIfInBounds_toArray, List.set_cons_zero, List.set_cons_succ]
      refine wpAnyH_ready (rs := [10]) (by kernel_rfl) (by simp) (AllReadyH.cons (o := { dst := none, op := Op.store 65 (Operand.tmp 12) (Operand.tmp 10), type := 0, pos := "procs.go:182", after := #[{ on := 9, ground := Ground.data }, { on := 6, ground := Ground.data }, { on := 8, ground := Ground.chain }, { on := 0, ground := Ground.phase }, { on := 1, ground := Ground.phase }, { on := 2, ground := Ground.phase }, { on := 3, ground := Ground.phase }, { on := 4, ground := Ground.phase }, { on := 5, ground := Ground.phase }, { on := 6, ground := Ground.phase }, { on := 7, ground := Ground.phase }, { on := 8, ground := Ground.phase }], guard := none }) rfl (fun K11 hK11 => ?_) AllReadyH.nil)
      refine wp_store_box 65 _ _ rfl w.heap.size 3 (.slice a2 (x.l.filter fun y => !f y).length c2) rfl rfl rfl rfl (by kernel_rfl) _ _ B1.out (by simp [BfV.cells]) ?_
      intro w14 b4 g4 z4
      have HT4 := hid (Turns.grown (S := fun t => t = 69) B1.out b4 rfl g4)
      have HSt := hid (HSt.out.turn (S := fun t => t = 69) (by decide) HT4.out)
      have B1 := hid (show BoxAt w14 w.heap.size 69 (BfV.cells { q with vs := ⟨a1, x.vs.length, c1⟩, l := ⟨a2, (x.l.filter fun y => !f y).length, c2⟩ }).toArray by simpa [BfV.cells] using b4)
      have B2 := hid (B2.out.grown g4 (by simp))
      have HBn := hid (HBn.out.trans (grown_below g4 (Nat.le_refl _) (by omega)))
      have HO1 := hid (HO1.out.turn (S := fun t => t = 69) (by decide) HT4.out)
      have HO2 := hid (HO2.out.turn (S := fun t => t = 69) (by decide) HT4.out)
      clear b4 g4
      refine hK11.out _ _ (HSt.out) (fun hHeld11 => ?_)
      clear hK11 K11
      try simp only [Act.put]
      refine wpAnyH_done (by kernel_rfl) ?_ _
      clear hHeld hHeld4 hHeld5 hHeld6 hHeld8 hHeld9 hHeld11
      go_wp2_with (first
        | (refine wpList_load_box rfl 69 _ rfl w.heap.size rfl _ _ B1.out _ Try.underlying69 Try.infoBfV ?_)
        | (refine wpList_store_whole rfl 69 _ _ rfl rfl (w.heap.size + 1) rfl (BfV.cells { q with vs := ⟨a1, x.vs.length, c1⟩, l := ⟨a2, (x.l.filter fun y => !f y).length, c2⟩ }) rfl _ _ B2.out rfl Try.infoBfV (BfV.one _) ?_
           intro w5 b5 g5 z5
           have B5 := hid b5
           have HT5 := hid (Turns.grown (S := fun t => t = 69) B2.out b5 rfl g5)
           have HB5 := hid (HBn.out.trans (grown_below g5 (by omega) (by omega)))
           have HO1 := hid (HO1.out.turn (S := fun t => t = 69) (by decide) HT5.out)
           have HO2 := hid (HO2.out.turn (S := fun t => t = 69) (by decide) HT5.out)
           clear b5 g5))
      refine bodyPost_ret (results_cell_row rfl _ _ (w.heap.size + 1) 69 _ (0, 0) _ rfl B5.out Try.underlying69 rfl Try.infoBfV) rfl ?_
      exact ⟨{ q with vs := ⟨a1, x.vs.length, c1⟩, l := ⟨a2, (x.l.filter fun y => !f y).length, c2⟩ }, rfl, ⟨HQ.out.d, HQ.out.k, HO1.out, HO2.out⟩, HB5.out⟩
    case' b5_5 =>
      go_simp
      refine hK5.out _ _ (HS.out.st) (fun hHeld5 => ?_)
      clear hK5 K5
      try simp only [Act.put, List.setIfInBounds_toArray, List.set_cons_zero, List.set_cons_succ]
      refine wpAnyH_ready (rs := [2]) (by kernel_rfl) (by simp) (AllReadyH.cons (o := { dst := some 6, op := Op.call { callee := Callee.value (Operand.func 64), args := #[Operand.tmp 5], argTypes := #[26] }, type := 26, pos := "procs.go:182", after := #[{ on := 1, ground := Ground.data }], guard := none }) rfl (fun K12 hK12 => ?_) AllReadyH.nil)
      go_simp
      refine (qclone_int (HQ.out.vs.below HBn.out) HN.out.2).mono ?_
      rintro e w15 ⟨u1, rfl, ho, hb⟩
      obtain ⟨a1, c1, rfl, hc1, hc2, _⟩ := ho.sees.form
      have HS := hid (HS.out.below hb)
      have B1 := hid (B1.out.belowAll hb)
      have B2 := hid (B2.out.belowAll hb)
      have HO1 := hid (ho.mono HBn.out.size)
      have HBn := hid (HBn.out.trans (hb.mono HBn.out.size))
      have hzz : w.heap.size + 1 + 1 ≤ w15.heap.size := by have h7 := hb.size; have h8 : w2.drew.heap.size = w2.heap.size := rfl; omega
      have kc2 : w15.cell? ⟨w.heap.size, 2, none⟩ = some (.slice q.vs.a q.vs.n q.vs.c) := (B1.out.cell 2).trans rfl
      have kc3 : w15.cell? ⟨w.heap.size, 3, none⟩ = some (.slice q.l.a q.l.n q.l.c) := (B1.out.cell 3).trans rfl
      clear ho hb hc1 hc2
      refine hK12.out _ _ (HS.out.st) (fun hHeld12 => ?_)
      clear hK12 K12
      try simp only [Act.put, List.setIfInBounds_toArray, List.set_cons_zero, List.set_cons_succ]
      refine wpAnyH_take (i := 7) (oi := { dst := some 11, op := Op.fieldAddr 69 (Operand.tmp 2) 2, type := 0, pos := "procs.go:182", after := #[{ on := 0, ground := Ground.phase }, { on := 1, ground := Ground.phase }, { on := 2, ground := Ground.phase }, { on := 3, ground := Ground.textOnly Departure.lateStores }, { on := 4, ground := Ground.phase }, { on := 5, ground := Ground.phase }, { on := 6, ground := Ground.textOnly Departure.lateStoresUnsure }], guard := none }) (v := ?_) rfl (by kernel_rfl) (by kernel_rfl) (by kernel_rfl) (fun _ _ _ h => h) (Or.inl ⟨by rfl, ?_⟩) (by assumption) ?_
      rotate_left
      · (intro w hSw; (try dsimp only at hSw); go_simp; try with_reducible rfl)
      simp only [Act.put, List.setIfInBounds_toArray, List.set_cons_zero, List.set_cons_succ]
      refine wpAnyH_ready (rs := [6]) (by kernel_rfl) (by simp) (AllReadyH.cons (o := { dst := some 10, op := Op.call { callee := Callee.value (Operand.tmp 7), args := #[Operand.tmp 9], argTypes := #[65] }, type := 65, pos := "procs.go:182", after := #[{ on := 3, ground := Ground.data }, { on := 5, ground := Ground.data }, { on := 2, ground := Ground.chain }], guard := none }) rfl (fun K14 hK14 => ?_) AllReadyH.nil)
      go_simp
      refine (stay_any gl cs f eg (HQ.out.l.below HBn.out) HN.out.1 HS.out.lv HS.out.te).mono ?_
      rintro e w16 ⟨u2, rfl, ho, hb⟩
      obtain ⟨a2, c2, rfl, hc1, hc2, _⟩ := ho.sees.form
      have HS := hid (HS.out.below hb)
      have B1 := hid (B1.out.belowAll hb)
      have B2 := hid (B2.out.belowAll hb)
      have HO1 := hid (HO1.out.below hb)
      have HO2 := hid (ho.mono HBn.out.size)
      have HBn := hid (HBn.out.trans (hb.mono HBn.out.size))
      have hzz : w.heap.size + 1 + 1 ≤ w16.heap.size := by have h7 := hb.size; have h8 : w2.drew.heap.size = w2.heap.size := rfl; omega
      clear ho hb hc1 hc2
      refine hK14.out _ _ (HS.out.st) (fun hHeld14 => ?_)
      clear hK14 K14
      try simp only [Act.put, List.setIfInBounds_toArray, List.set_cons_zero, List.set_cons_succ]
      refine wpAnyH_ready (rs := [8]) (by kernel_rfl) (by simp) (AllReadyH.cons (o := { dst := none, op := Op.store 26 (Operand.tmp 11) (Operand.tmp 6), type := 0, pos := "procs.go:182", after := #[{ on := 7, ground := Ground.data }, { on := 2, ground := Ground.data }, { on := 6, ground := Ground.chain }, { on := 0, ground := Ground.phase }, { on := 1, ground := Ground.phase }, { on := 2, ground := Ground.phase }, { on := 3, ground := Ground.textOnly Departure.lateStores }, { on := 4, ground := Ground.phase }, { on := 5, ground := Ground.phase }, { on := 6, ground := Ground.textOnly Departure.lateStoresUnsure }], guard := none }) rfl (fun K15 hK15 => ?_) AllReadyH.nil)
      refine wp_store_box 26 _ _ rfl w.heap.size 2 (.slice a1 x.vs.length c1) rfl rfl rfl rfl (by kernel_rfl) _ _ B1.out (by simp [BfV.cells]) ?_
      intro w17 b4 g4 z4
      have HT4 := hid (Turns.grown (S := fun t => t = 69) B1.out b4 rfl g4)
      have HSt := hid (HS.out.st.turn (S := fun t => t = 69) (by decide) HT4.out)
      have B1 := hid (show BoxAt w17 w.heap.size 69 (BfV.cells { q with vs := ⟨a1, x.vs.length, c1⟩ }).toArray by simpa [BfV.cells] using b4)
      have B2 := hid (B2.out.grown g4 (by simp))
      have HBn := hid (HBn.out.trans (grown_below g4 (Nat.le_refl _) (by omega)))
      have HO1 := hid (HO1.out.turn (S := fun t => t = 69) (by decide) HT4.out)
      have HO2 := hid (HO2.out.turn (S := fun t => t = 69) (by decide) HT4.out)
      clear b4 g4
      refine hK15.out _ _ (HSt.out) (fun hHeld15 => ?_)
      clear hK15 K15
      try simp only [Act.put]
      refine wpAnyH_take (i := 9) (oi := { dst := some 12, op := Op.fieldAddr 69 (Operand.tmp 2) 3, type := 0, pos := "procs.go:182", after := #[{ on := 0, ground := Ground.phase }, { on := 1, ground := Ground.phase }, { on := 2, ground := Ground.phase }, { on := 3, ground := Ground.phase }, { on := 4, ground := Ground.phase }, { on := 5, ground := Ground.phase }, { on := 6, ground := Ground.phase }, { on := 7, ground := Ground.phase }, { on := 8, ground := Ground.phase }], guard := none }) (v := ?_) rfl (by kernel_rfl) (by kernel_rfl) (by kernel_rfl) (fun _ _ _ h => h) (Or.inl ⟨by rfl, ?_⟩) (by assumption) ?_
      rotate_left
      · (intro w hSw; (try dsimp only at hSw); go_simp; try with_reducible rfl)
      simp only [Act.put, List.setIfInBounds_toArray, List.set_cons_zero, List.set_cons_succ]
      refine wpAnyH_ready (rs := [10]) (by kernel_rfl) (by simp) (AllReadyH.cons (o := { dst := none, op := Op.store 65 (Operand.tmp 12) (Operand.tmp 10), type := 0, pos := "procs.go:182", after := #[{ on := 9, ground := Ground.data }, { on := 6, ground := Ground.data }, { on := 8, ground := Ground.chain }, { on := 0, ground := Ground.phase }, { on := 1, ground := Ground.phase }, { on := 2, ground := Ground.phase }, { on := 3, ground := Ground.phase }, { on := 4, ground := Ground.phase }, { on := 5, ground := Ground.phase }, { on := 6, ground := Ground.phase }, { on := 7, ground := Ground.phase }, { on := 8, ground := Ground.phase }], guard := none }) rfl (fun K17 hK17 => ?_) AllReadyH.nil)
      refine wp_store_box 65 _ _ rfl w.heap.size 3 (.slice a2 (x.l.filter fun y => !f y).length c2) rfl rfl rfl rfl (by kernel_rfl) _ _ B1.out (by simp [BfV.cells]) ?_
      intro w18 b4 g4 z4
      have HT4 := hid (Turns.grown (S := fun t => t = 69) B1.out b4 rfl g4)
      have HSt := hid (HSt.out.turn (S := fun t => t = 69) (by decide) HT4.out)
      have B1 := hid (show BoxAt w18 w.heap.size 69 (BfV.cells { q with vs := ⟨a1, x.vs.length, c1⟩, l := ⟨a2, (x.l.filter fun y => !f y).length, c2⟩ }).toArray by simpa [BfV.cells] using b4)
      have B2 := hid (B2.out.grown g4 (by simp))
      have HBn := hid (HBn.out.trans (grown_below g4 (Nat.le_refl _) (by omega)))
      have HO1 := hid (HO1.out.turn (S := fun t => t = 69) (by decide) HT4.out)
      have HO2 := hid (HO2.out.turn (S := fun t => t = 69) (by decide) HT4.out)
      clear b4 g4
      refine hK17.out _ _ (HSt.out) (fun hHeld17 => ?_)
      clear hK17 K17
      try simp only [Act.put]
      refine wpAnyH_done (by kernel_rfl) ?_ _
      clear hHeld hHeld4 hHeld5 hHeld12 hHeld14 hHeld15 hHeld17
      go_wp2_with (first
        | (refine wpList_load_box rfl 69 _ rfl w.heap.size rfl _ _ B1.out _ Try.underlying69 Try.infoBfV ?_)
        | (refine wpList_store_whole rfl 69 _ _ rfl rfl (w.heap.size + 1) rfl (BfV.cells { q with vs := ⟨a1, x.vs.length, c1⟩, l := ⟨a2, (x.l.filter fun y => !f y).length, c2⟩ }) rfl _ _ B2.out rfl Try.infoBfV (BfV.one _) ?_
           intro w5 b5 g5 z5
           have B5 := hid b5
           have HT5 := hid (Turns.grown (S := fun t => t = 69) B2.out b5 rfl g5)
           have HB5 := hid (HBn.out.trans (grown_below g5 (by omega) (by omega)))
           have HO1 := hid (HO1.out.turn (S := fun t => t = 69) (by decide) HT5.out)
           have HO2 := hid (HO2.out.turn (S := fun t => t = 69) (by decide) HT5.out)
           clear b5 g5))
      refine bodyPost_ret (results_cell_row rfl _ _ (w.heap.size + 1) 69 _ (0, 0) _ rfl B5.out Try.underlying69 rfl Try.infoBfV) rfl ?_
      exact ⟨{ q with vs := ⟨a1, x.vs.length, c1⟩, l := ⟨a2, (x.l.filter fun y => !f y).length, c2⟩ }, rfl, ⟨HQ.out.d, HQ.out.k, HO1.out, HO2.out⟩, HB5.out⟩
  case' b4_5 =>
    go_simp
    refine hK4.out _ _ (HS.out.st) (fun hHeld4 => ?_)
    clear hK4 K4
    try simp only [Act.put, List.setIfInBounds_toArray, List.set_cons_zero, List.set_cons_succ]
    refine wpAnyH_ready (rs := [1]) (by kernel_rfl) (by simp) (AllReadyH.cons (o := { dst := some 5, op := Op.load 26 (Operand.tmp 4), type := 26, pos := "procs.go:182", after := #[{ on := 0, ground := Ground.data }], guard := none }) rfl (fun K18 hK18 => ?_) AllReadyH.nil)
    go_simp
    refine hK18.out _ _ (HS.out.st) (fun hHeld18 => ?_)
    clear hK18 K18
    try simp only [Act.put, List.setIfInBounds_toArray, List.set_cons_zero, List.set_cons_succ]
    refine wpAnyH_ready (rs := [2]) (by kernel_rfl) (by simp) (AllReadyH.cons (o := { dst := some 6, op := Op.call { callee := Callee.value (Operand.func 64), args := #[Operand.tmp 5], argTypes := #[26] }, type := 26, pos := "procs.go:182", after := #[{ on := 1, ground := Ground.data }], guard := none }) rfl (fun K19 hK19 => ?_) AllReadyH.nil)
    go_simp
    refine (qclone_int (HQ.out.vs.below HBn.out) HN.out.2).mono ?_
    rintro e w19 ⟨u1, rfl, ho, hb⟩
    obtain ⟨a1, c1, rfl, hc1, hc2, _⟩ := ho.sees.form
    have HS := hid (HS.out.below hb)
    have B1 := hid (B1.out.belowAll hb)
    have B2 := hid (B2.out.belowAll hb)
    have HO1 := hid (ho.mono HBn.out.size)
    have HBn := hid (HBn.out.trans (hb.mono HBn.out.size))
    have hzz : w.heap.size + 1 + 1 ≤ w19.heap.size := by have h7 := hb.size; have h8 : w2.drew.heap.size = w2.heap.size := rfl; omega
    have kc2 : w19.cell? ⟨w.heap.size, 2, none⟩ = some (.slice q.vs.a q.vs.n q.vs.c) := (B1.out.cell 2).trans rfl
    have kc3 : w19.cell? ⟨w.heap.size, 3, none⟩ = some (.slice q.l.a q.l.n q.l.c) := (B1.out.cell 3).trans rfl
    clear ho hb hc1 hc2
    refine hK19.out _ _ (HS.out.st) (fun hHeld19 => ?_)
    clear hK19 K19
    try simp only [Act.put, List.setIfInBounds_toArray, List.set_cons_zero, List.set_cons_succ]
    refine wpAnyH_take (i := 7) (oi := { dst := some 11, op := Op.fieldAddr 69 (Operand.tmp 2) 2, type := 0, pos := "procs.go:182", after := #[{ on := 0, ground := Ground.phase }, { on := 1, ground := Ground.phase }, { on := 2, ground := Ground.phase }, { on := 3, ground := Ground.textOnly Departure.lateStores }, { on := 4, ground := Ground.phase }, { on := 5, ground := Ground.phase }, { on := 6, ground := Ground.textOnly Departure.lateStoresUnsure }], guard := none }) (v := ?_) rfl (by kernel_rfl) (by kernel_rfl) (by kernel_rfl) (fun _ _ _ h => h) (Or.inl ⟨by rfl, ?_⟩) (by assumption) ?_
    rotate_left
    · (intro w hSw; (try dsimp only at hSw); go_simp; try with_reducible rfl)
    simp only [Act.put, List.setIfInBounds_toArray, List.set_cons_zero, List.set_cons_succ]
    refine wpAnyH_ready (rs := [6]) (by kernel_rfl) (by simp) (AllReadyH.cons (o := { dst := some 10, op := Op.call { callee := Callee.value (Operand.tmp 7), args := #[Operand.tmp 9], argTypes := #[65] }, type := 65, pos := "procs.go:182", after := #[{ on := 3, ground := Ground.data }, { on := 5, ground := Ground.data }, { on := 2, ground := Ground.chain }], guard := none }) rfl (fun K21 hK21 => ?_) AllReadyH.nil)
    go_simp
    refine (stay_any gl cs f eg (HQ.out.l.below HBn.out) HN.out.1 HS.out.lv HS.out.te).mono ?_
    rintro e w20 ⟨u2, rfl, ho, hb⟩
    obtain ⟨a2, c2, rfl, hc1, hc2, _⟩ := ho.sees.form
    have HS := hid (HS.out.below hb)
    have B1 := hid (B1.out.belowAll hb)
    have B2 := hid (B2.out.belowAll hb)
    have HO1 := hid (HO1.out.below hb)
    have HO2 := hid (ho.mono HBn.out.size)
    have HBn := hid (HBn.out.trans (hb.mono HBn.out.size))
    have hzz : w.heap.size + 1 + 1 ≤ w20.heap.size := by have h7 := hb.size; have h8 : w2.drew.heap.size = w2.heap.size := rfl; omega
    clear ho hb hc1 hc2
    refine hK21.out _ _ (HS.out.st) (fun hHeld21 => ?_)
    clear hK21 K21
    try simp only [Act.put, List.setIfInBounds_toArray, List.set_cons_zero, List.set_cons_succ]
    refine wpAnyH_ready (rs := [8]) (by kernel_rfl) (by simp) (AllReadyH.cons (o := { dst := none, op := Op.store 26 (Operand.tmp 11) (Operand.tmp 6), type := 0, pos := "procs.go:182", after := #[{ on := 7, ground := Ground.data }, { on := 2, ground := Ground.data }, { on := 6, ground := Ground.chain }, { on := 0, ground := Ground.phase }, { on := 1, ground := Ground.phase }, { on := 2, ground := Ground.phase }, { on := 3, ground := Ground.textOnly Departure.lateStores }, { on := 4, ground := Ground.phase }, { on := 5, ground := Ground.phase }, { on := 6, ground := Ground.textOnly Departure.lateStoresUnsure }], guard := none }) rfl (fun K22 hK22 => ?_) AllReadyH.nil)
    refine wp_store_box 26 _ _ rfl w.heap.size 2 (.slice a1 x.vs.length c1) rfl rfl rfl rfl (by kernel_rfl) _ _ B1.out (by simp [BfV.cells]) ?_
    intro w21 b4 g4 z4
    have HT4 := hid (Turns.grown (S := fun t => t = 69) B1.out b4 rfl g4)
    have HSt := hid (HS.out.st.turn (S := fun t => t = 69) (by decide) HT4.out)
    have B1 := hid (show BoxAt w21 w.heap.size 69 (BfV.cells { q with vs := ⟨a1, x.vs.length, c1⟩ }).toArray by simpa [BfV.cells] using b4)
    have B2 := hid (B2.out.grown g4 (by simp))
    have HBn := hid (HBn.out.trans (grown_below g4 (Nat.le_refl _) (by omega)))
    have HO1 := hid (HO1.out.turn (S := fun t => t = 69) (by decide) HT4.out)
    have HO2 := hid (HO2.out.turn (S := fun t => t = 69) (by decide) HT4.out)
    clear b4 g4
    refine hK22.out _ _ (HSt.out) (fun hHeld22 => ?_)
    clear hK22 K22
    try simp only [Act.put]
    refine wpAnyH_take (i := 9) (oi := { dst := some 12, op := Op.fieldAddr 69 (Operand.tmp 2) 3, type := 0, pos := "procs.go:182", after := #[{ on := 0, ground := Ground.phase }, { on := 1, ground := Ground.phase }, { on := 2, ground := Ground.phase }, { on := 3, ground := Ground.phase }, { on := 4, ground := Ground.phase }, { on := 5, ground := Ground.phase }, { on := 6, ground := Ground.phase }, { on := 7, ground := Ground.phase }, { on := 8, ground := Ground.phase }], guard := none }) (v := ?_) rfl (by kernel_rfl) (by kernel_rfl) (by kernel_rfl) (fun _ _ _ h => h) (Or.inl ⟨by rfl, ?_⟩) (by assumption) ?_
    rotate_left
    · (intro w hSw; (try dsimp only at hSw); go_simp; try with_reducible rfl)
    simp only [Act.put, List.setIfInBounds_toArray, List.set_cons_zero, List.set_cons_succ]
    refine wpAnyH_ready (rs := [10]) (by kernel_rfl) (by simp) (AllReadyH.cons (o := { dst := none, op := Op.store 65 (Operand.tmp 12) (Operand.tmp 10), type := 0, pos := "procs.go:182", after := #[{ on := 9, ground := Ground.data }, { on := 6, ground := Ground.data }, { on := 8, ground := Ground.chain }, { on := 0, ground := Ground.phase }, { on := 1, ground := Ground.phase }, { on := 2, ground := Ground.phase }, { on := 3, ground := Ground.phase }, { on := 4, ground := Ground.phase }, { on := 5, ground := Ground.phase }, { on := 6, ground := Ground.phase }, { on := 7, ground := Ground.phase }, { on := 8, ground := Ground.phase }], guard := none }) rfl (fun K24 hK24 => ?_) AllReadyH.nil)
    refine wp_store_box 65 _ _ rfl w.heap.size 3 (.slice a2 (x.l.filter fun y => !f y).length c2) rfl rfl rfl rfl (by kernel_rfl) _ _ B1.out (by simp [BfV.cells]) ?_
    intro w22 b4 g4 z4
    have HT4 := hid (Turns.grown (S := fun t => t = 69) B1.out b4 rfl g4)
    have HSt := hid (HSt.out.turn (S := fun t => t = 69) (by decide) HT4.out)
    have B1 := hid (show BoxAt w22 w.heap.size 69 (BfV.cells { q with vs := ⟨a1, x.vs.length, c1⟩, l := ⟨a2, (x.l.filter fun y => !f y).length, c2⟩ }).toArray by simpa [BfV.cells] using b4)
    have B2 := hid (B2.out.grown g4 (by simp))
    have HBn := hid (HBn.out.trans (grown_below g4 (Nat.le_refl _) (by omega)))
    have HO1 := hid (HO1.out.turn (S := fun t => t = 69) (by decide) HT4.out)
    have HO2 := hid (HO2.out.turn (S := fun t => t = 69) (by decide) HT4.out)
    clear b4 g4
    refine hK24.out _ _ (HSt.out) (fun hHeld24 => ?_)
    clear hK24 K24
    try simp only [Act.put]
    refine wpAnyH_done (by kernel_rfl) ?_ _
    clear hHeld hHeld4 hHeld18 hHeld19 hHeld21 hHeld22 hHeld24
    go_wp2_with (first
      | (refine wpList_load_box rfl 69 _ rfl w.heap.size rfl _ _ B1.out _ Try.underlying69 Try.infoBfV ?_)
      | (refine wpList_store_whole rfl 69 _ _ rfl rfl (w.heap.size + 1) rfl (BfV.cells { q with vs := ⟨a1, x.vs.length, c1⟩, l := ⟨a2, (x.l.filter fun y => !f y).length, c2⟩ }) rfl _ _ B2.out rfl Try.infoBfV (BfV.one _) ?_
         intro w5 b5 g5 z5
         have B5 := hid b5
         have HT5 := hid (Turns.grown (S := fun t => t = 69) B2.out b5 rfl g5)
         have HB5 := hid (HBn.out.trans (grown_below g5 (by omega) (by omega)))
         have HO1 := hid (HO1.out.turn (S := fun t => t = 69) (by decide) HT5.out)
         have HO2 := hid (HO2.out.turn (S := fun t => t = 69) (by decide) HT5.out)
         clear b5 g5))
    refine bodyPost_ret (results_cell_row rfl _ _ (w.heap.size + 1) 69 _ (0, 0) _ rfl B5.out Try.underlying69 rfl Try.infoBfV) rfl ?_
    exact ⟨{ q with vs := ⟨a1, x.vs.length, c1⟩, l := ⟨a2, (x.l.filter fun y => !f y).length, c2⟩ }, rfl, ⟨HQ.out.d, HQ.out.k, HO1.out, HO2.out⟩, HB5.out⟩

end Go.Proofs.Ytdanfnbclbiidaa
