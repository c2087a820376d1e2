/-
  TimesWake: what any partition becomes when who has waited up to any tick goes on, and who is late, is what the document says.
-/
import Derived.Test.YtdanfnbclbiidaaUAwake
import Derived.Test.YtdanfnbclbiidaaQLaws1
import Derived.Test.YtdanfnbclbiidaaQSame3E
import Derived.Test.YtdanfnbclbiidaaWSame
import Derived.Test.YtdanfnbclbiidaaUWakeR
namespace Go.Proofs.Ytdanfnbclbiidaa
open Go.RowKit
set_option linter.unusedVariables false

theorem same_yes {va vb : Value} {xs : List Int} {w : World} (ha : Sees w .i64 va xs) (hb : Sees w .i64 vb xs) :
    Calls Try.prog 16 #[va, vb] w fun e w' => e = .returned (.bool true) ∧ Below w.heap.size w w' := by
  refine (same_any va vb xs xs w ha hb).mono ?_
  rintro e w' ⟨rfl, h⟩
  exact ⟨by rw [decide_eq_true rfl], h⟩

set_option maxRecDepth 100000 in
set_option maxHeartbeats 12800000 in
theorem walk_TimesWake (w : World) (x0 : PtX) (f0 : x0.fit w) (x1 : PaX) (f1 : x1.fit w) (now : Int) (w2 : (Lit.int .i64 now).wf = true) (hN : 2 * (x1.c.bo.length + x1.c.bu.length + x1.c.se.length + x1.c.ev.length) ≤ 1048576) :
    Calls Try.prog 3 #[x0.val, x1.val, .int .i64 now] w fun e w' => e = .returned (.bool true) ∧ Below w.heap.size w w' := by
  obtain ⟨qc, cc⟩ := x0
  obtain ⟨q, c⟩ := x1
  unfold PtX.val PaX.val
  simp only at hN ⊢
  have HC := hid f0.1
  have HA := hid f1.1
  have HNm := hid (show c.bo.length + c.bu.length + c.se.length + c.ev.length ≤ 900000 by omega)
  obtain ⟨ac, cpc, hcv, hc1, hc2, hcell⟩ := HC.out.pc.form
  have hmaxc : cpc ≤ 9223372036854775807 := hc2
  have HCv := hid hcv
  have HCc := hid hcell
  clear hcv hc2 hcell
  obtain ⟨ap, cpp, hpv, hp1, hp2, hpcell⟩ := HA.out.pr.form
  have hmax : cpp ≤ 9223372036854775807 := hp2
  have HPv := hid hpv
  have HPc := hid hpcell
  clear hpv hp2 hpcell
  clear hN f0 f1 w2
  have HB := hid (Below.refl w.heap.size w)
  go_enter Try.func3, Try.ntmps3
  have FL1 := hid trivial
  have FL2 := hid trivial
  go_wp2_with (first
    | (have hfl := FL1.out
       refine wpList_box rfl 28 (.tmp 0) rfl (Pv.cells qc).toArray rfl ?_
       intro v1 b h z
       have CB := hid (show BoxAt v1 w.heap.size 28 (Pv.cells qc).toArray from b)
       have HB := hid (HB.out.trans (h.mono HB.out.size))
       have hsv1 : w.heap.size + 1 ≤ v1.heap.size := by omega
       clear b h z hfl FL1)
    | (have hfl := FL2.out
       refine wpList_box rfl 39 (.tmp 1) rfl (PaV.cells q).toArray rfl ?_
       intro v2 b h z
       have PB := hid (show BoxAt v2 v1.heap.size 39 (PaV.cells q).toArray from b)
       have CB := hid (CB.out.belowAll h)
       have HB := hid (HB.out.trans (h.mono HB.out.size))
       have hsv2 : v1.heap.size + 1 ≤ v2.heap.size := by omega
       clear b h z hfl FL2)
    | fail)
  refine (uawake_any _).mono ?_
  rintro e v3 ⟨rfl, hb⟩
  have CB := hid (CB.out.belowAll hb)
  have PB := hid (PB.out.belowAll hb)
  have HB := hid (HB.out.trans (hb.mono HB.out.size))
  have hsv3 : v2.heap.size ≤ v3.heap.size := hb.size
  clear hb
  go_wp2_with (first
    | (refine wpList_load_box rfl 39 _ rfl v1.heap.size rfl _ _ PB.out _ Try.underlying39 Try.infoPa ?_)
    | fail)
  refine (few_tot (HA.out.below HB.out) HNm.out).mono ?_
  rintro e v4 ⟨⟨ok, rfl, hok⟩, hb⟩
  have CB := hid (CB.out.belowAll hb)
  have PB := hid (PB.out.belowAll hb)
  have HB := hid (HB.out.trans (hb.mono HB.out.size))
  have hsv4 : v3.heap.size ≤ v4.heap.size := hb.size
  have HOk := hid hok
  clear hok
  clear hb
  have kCB2 : v4.cell? ⟨w.heap.size, 2, none⟩ = some (.slice ac cc.pc.length cpc) := (BoxAt.cell CB.out 2).trans (by show some qc.v2.val = _; rw [HCv.out])
  have kPB4 : v4.cell? ⟨v1.heap.size, 4, none⟩ = some (.slice ap c.pr.length cpp) := (BoxAt.cell PB.out 4).trans (by show some q.pr.val = _; rw [HPv.out])
  rcases ok with _ | _
  · go_wp2
    go_ret
    exact ⟨rfl, HB.out⟩
  have HT := hid (HOk.out rfl)
  have HSm := hid HT.out.small
  clear HOk
  by_cases hbig : (20 : Int) < (cc.pc.length : Int)
  · go_wp2
    go_ret
    exact ⟨rfl, HB.out⟩
  have hd1 : decide ((20 : Int) < (cc.pc.length : Int)) = false := decide_eq_false hbig
  have HBg := hid (show cc.pc.length ≤ 20 by omega)
  clear hbig
  go_wp2_with fail
  clear hd1 kCB2 kPB4
  have CB := hid (BoxAt.drew CB.out)
  have PB := hid (BoxAt.drew PB.out)
  have HB := hid HB.out.drew
  have hsd100 : v4.heap.size ≤ v4.drew.heap.size := Nat.le_refl _
  refine wp_region_held_drew (S := (fun W => BoxAt W w.heap.size 28 (Pv.cells qc).toArray ∧ BoxAt W v1.heap.size 39 (PaV.cells q).toArray)) (by kernel_rfl) (⟨CB.out, PB.out⟩) (fun hHeld => ?_)
  refine wpAnyH_take (i := 0) (oi := { dst := some 32, op := Op.load 28 (Operand.tmp 3), type := 28, pos := "law.go:31", after := #[], guard := none }) (v := ?v101) rfl (by kernel_rfl) (by kernel_rfl) (by kernel_rfl) (fun _ _ _ h => h) (Or.inl ⟨by rfl, ?hy101⟩) (by assumption) ?rest101
  case hy101 => (intro W hSw; refine box_yields 28 (.tmp 3) ?_ w.heap.size ?_ (Pv.cells qc) 28 _ Try.underlying28 Try.infoPv hSw.1 <;> rfl)
  simp only [Act.put, List.setIfInBounds_toArray, List.set_cons_zero, List.set_cons_succ]
  refine wpAnyH_take (i := 1) (oi := { dst := some 33, op := Op.load 39 (Operand.tmp 4), type := 39, pos := "law.go:31", after := #[], guard := none }) (v := ?v102) rfl (by kernel_rfl) (by kernel_rfl) (by kernel_rfl) (fun _ _ _ h => h) (Or.inl ⟨by rfl, ?hy102⟩) (by assumption) ?rest102
  case hy102 => (intro W hSw; refine box_yields 39 (.tmp 4) ?_ v1.heap.size ?_ (PaV.cells q) 39 _ Try.underlying39 Try.infoPa hSw.2 <;> rfl)
  simp only [Act.put, List.setIfInBounds_toArray, List.set_cons_zero, List.set_cons_succ]
  refine wpAnyH_take (i := 2) (oi := { dst := some 34, op := Op.move (Operand.tmp 2), type := 3, pos := "law.go:31", after := #[], guard := none }) (v := ?v103) rfl (by kernel_rfl) (by kernel_rfl) (by kernel_rfl) (fun _ _ _ h => h) (Or.inl ⟨by rfl, ?hy103⟩) (by assumption) ?rest103
  case hy103 => (intro w hSw; (try dsimp only at hSw); go_simp; try with_reducible rfl)
  simp only [Act.put, List.setIfInBounds_toArray, List.set_cons_zero, List.set_cons_succ]
  refine wpAnyH_take (i := 4) (oi := { dst := some 36, op := Op.load 28 (Operand.tmp 3), type := 28, pos := "law.go:31", after := #[], guard := none }) (v := ?v104) rfl (by kernel_rfl) (by kernel_rfl) (by kernel_rfl) (fun _ _ _ h => h) (Or.inl ⟨by rfl, ?hy104⟩) (by assumption) ?rest104
  case hy104 => (intro W hSw; refine box_yields 28 (.tmp 3) ?_ w.heap.size ?_ (Pv.cells qc) 28 _ Try.underlying28 Try.infoPv hSw.1 <;> rfl)
  simp only [Act.put, List.setIfInBounds_toArray, List.set_cons_zero, List.set_cons_succ]
  refine wpAnyH_take (i := 5) (oi := { dst := some 37, op := Op.load 39 (Operand.tmp 4), type := 39, pos := "law.go:31", after := #[], guard := none }) (v := ?v105) rfl (by kernel_rfl) (by kernel_rfl) (by kernel_rfl) (fun _ _ _ h => h) (Or.inl ⟨by rfl, ?hy105⟩) (by assumption) ?rest105
  case hy105 => (intro W hSw; refine box_yields 39 (.tmp 4) ?_ v1.heap.size ?_ (PaV.cells q) 39 _ Try.underlying39 Try.infoPa hSw.2 <;> rfl)
  simp only [Act.put, List.setIfInBounds_toArray, List.set_cons_zero, List.set_cons_succ]
  refine wpAnyH_take (i := 6) (oi := { dst := some 38, op := Op.move (Operand.tmp 2), type := 3, pos := "law.go:31", after := #[], guard := none }) (v := ?v106) rfl (by kernel_rfl) (by kernel_rfl) (by kernel_rfl) (fun _ _ _ h => h) (Or.inl ⟨by rfl, ?hy106⟩) (by assumption) ?rest106
  case hy106 => (intro w hSw; (try dsimp only at hSw); go_simp; try with_reducible rfl)
  simp only [Act.put, List.setIfInBounds_toArray, List.set_cons_zero, List.set_cons_succ]
  refine wpAnyH_ready (rs := [3]) (by kernel_rfl) (by simp) (AllReadyH.cons (o := { dst := some 35, op := Op.call { callee := Callee.value (Operand.func 12), args := #[Operand.tmp 32, Operand.tmp 33, Operand.tmp 34], argTypes := #[28, 39, 3] }, type := 39, pos := "law.go:31", after := #[{ on := 0, ground := Ground.data }, { on := 1, ground := Ground.data }, { on := 2, ground := Ground.data }], guard := none }) rfl (fun K107 hK107 => ?_) AllReadyH.nil)
  go_simp
  refine (wake_any (now := now) (HC.out.below HB.out) (HA.out.below HB.out) HSm.out).mono ?_
  rintro e v5 ⟨qa, rfl, ho, hb⟩
  have CB := hid (CB.out.belowAll hb)
  have PB := hid (PB.out.belowAll hb)
  have HB := hid (HB.out.trans (hb.mono HB.out.size))
  have hsv5 : v4.drew.heap.size ≤ v5.heap.size := hb.size
  have HOa := hid ho
  clear ho
  clear hb
  refine hK107.out _ _ (⟨CB.out, PB.out⟩) (fun hHeld107 => ?_)
  clear hK107 K107
  try simp only [Act.put, List.setIfInBounds_toArray, List.set_cons_zero, List.set_cons_succ]
  refine wpAnyH_ready (rs := [7]) (by kernel_rfl) (by simp) (AllReadyH.cons (o := { dst := some 39, op := Op.call { callee := Callee.value (Operand.func 13), args := #[Operand.tmp 36, Operand.tmp 37, Operand.tmp 38], argTypes := #[28, 39, 3] }, type := 39, pos := "law.go:31", after := #[{ on := 4, ground := Ground.data }, { on := 5, ground := Ground.data }, { on := 6, ground := Ground.data }, { on := 3, ground := Ground.chain }], guard := none }) rfl (fun K108 hK108 => ?_) AllReadyH.nil)
  go_simp
  refine (rwake_any (now := now) HC.out HA.out HB.out HSm.out).mono ?_
  rintro e v6 ⟨qb, rfl, ho, hb⟩
  have CB := hid (CB.out.belowAll hb)
  have PB := hid (PB.out.belowAll hb)
  have HOa := hid (HOa.out.below hb)
  have HB := hid (HB.out.trans (hb.mono HB.out.size))
  have hsv6 : v5.heap.size ≤ v6.heap.size := hb.size
  have HOb := hid ho
  clear ho
  clear hb
  refine hK108.out _ _ (⟨CB.out, PB.out⟩) (fun hHeld108 => ?_)
  clear hK108 K108
  try simp only [Act.put, List.setIfInBounds_toArray, List.set_cons_zero, List.set_cons_succ]
  refine wpAnyH_ready (rs := [8]) (by kernel_rfl) (by simp) (AllReadyH.cons (o := { dst := some 40, op := Op.call { callee := Callee.value (Operand.func 11), args := #[Operand.tmp 35, Operand.tmp 39], argTypes := #[39, 39] }, type := 4, pos := "law.go:31", after := #[{ on := 3, ground := Ground.data }, { on := 7, ground := Ground.data }, { on := 7, ground := Ground.chain }], guard := none }) rfl (fun K109 hK109 => ?_) AllReadyH.nil)
  go_simp
  refine (same_eq HOa.out.sees HOb.out.at).mono ?_
  rintro e v7 ⟨rfl, hb⟩
  have CB := hid (CB.out.belowAll hb)
  have PB := hid (PB.out.belowAll hb)
  have HOa := hid (HOa.out.below hb)
  have HB := hid (HB.out.trans (hb.mono HB.out.size))
  have hsv7 : v6.heap.size ≤ v7.heap.size := hb.size
  clear HOa HOb
  clear hb
  refine hK109.out _ _ (⟨CB.out, PB.out⟩) (fun hHeld109 => ?_)
  clear hK109 K109
  try simp only [Act.put, List.setIfInBounds_toArray, List.set_cons_zero, List.set_cons_succ]
  refine wpAnyH_take (i := 9) (oi := { dst := some 9, op := Op.assign (Operand.tmp 40), type := 4, pos := "law.go:31", after := #[{ on := 8, ground := Ground.data }, { on := 8, ground := Ground.chain }, { on := 0, ground := Ground.phase }, { on := 1, ground := Ground.phase }, { on := 2, ground := Ground.phase }, { on := 3, ground := Ground.phase }, { on := 4, ground := Ground.phase }, { on := 5, ground := Ground.phase }, { on := 6, ground := Ground.phase }, { on := 7, ground := Ground.phase }, { on := 8, ground := Ground.phase }], guard := none }) (v := ?v110) rfl (by kernel_rfl) (by kernel_rfl) (by kernel_rfl) (fun _ _ _ h => h) (Or.inl ⟨by rfl, ?hy110⟩) (by assumption) ?rest110
  case hy110 => (intro w hSw; (try dsimp only at hSw); go_simp; try with_reducible rfl)
  simp only [Act.put, List.setIfInBounds_toArray, List.set_cons_zero, List.set_cons_succ]
  refine wpAnyH_done (by kernel_rfl) ?_ _
  clear hHeld hHeld107 hHeld108 hHeld109
  go_wp2_with (first
    | (with_reducible refine wpList_dst 42 rfl ?_
       refine wpList_load_box rfl 39 _ rfl v1.heap.size rfl _ _ PB.out _ Try.underlying39 Try.infoPa ?_)
    | fail)
  refine (late_any (now := now) (HA.out.below HB.out) HSm.out).mono ?_
  rintro e v8 ⟨l1, q1, rfl, hl, ho, hb⟩
  have CB := hid (CB.out.belowAll hb)
  have PB := hid (PB.out.belowAll hb)
  have HB := hid (HB.out.trans (hb.mono HB.out.size))
  have hsv8 : v7.heap.size ≤ v8.heap.size := hb.size
  have HL1 := hid hl
  have HO1 := hid ho
  clear hl ho
  clear hb
  have FL3 := hid trivial
  have FL4 := hid trivial
  go_wp2_with (first
    | (have hfl := FL3.out
       refine wpList_new rfl 39 rfl _ Try.zeroPa ?_
       intro v9 b h z
       have QB := hid (show BoxAt v9 v8.heap.size 39 (PaV.cells PaV.zero).toArray from b)
       have CB := hid (CB.out.belowAll h)
       have PB := hid (PB.out.belowAll h)
       have HO1 := hid (HO1.out.below h)
       have HL1 := hid (HL1.out.below h)
       have HB := hid (HB.out.trans (h.mono HB.out.size))
       have hsv9 : v8.heap.size + 1 ≤ v9.heap.size := by omega
       clear b h z hfl FL3)
    | (have hfl := FL4.out
       refine wpList_store_whole rfl 39 _ _ rfl rfl v8.heap.size rfl (PaV.cells q1) rfl _ _ QB.out rfl Try.infoPa (PaV.one _) ?_
       intro v10 b g z
       have hsv10 : v9.heap.size ≤ v10.heap.size := by omega
       have HO1 := hid (HO1.out.turn (Turns.grown (S := fun t => t = 39) QB.out b rfl g))
       have HL1 := hid (OI.turn (S := fun t => t = 39) HL1.out (by decide) (Turns.grown (S := fun t => t = 39) QB.out b rfl g))
       have QB := hid (show BoxAt v10 v8.heap.size 39 (PaV.cells q1).toArray from b)
       have CB := hid (CB.out.grown g (fun e => by have := Option.some.inj e; omega))
       have PB := hid (PB.out.grown g (fun e => by have := Option.some.inj e; omega))
       have HB := hid (HB.out.trans (grown_below g (by omega) (by omega)))
       clear b g z hfl FL4)
    | (with_reducible refine wpList_dst 48 rfl ?_
       refine wpList_load_box rfl 39 _ rfl v1.heap.size rfl _ _ PB.out _ Try.underlying39 Try.infoPa ?_)
    | fail)
  refine (rlate_any (now := now) HA.out HB.out HSm.out).mono ?_
  rintro e v11 ⟨l2, q2, rfl, hl, ho, hb⟩
  have CB := hid (CB.out.belowAll hb)
  have PB := hid (PB.out.belowAll hb)
  have QB := hid (QB.out.belowAll hb)
  have HO1 := hid (HO1.out.below hb)
  have HL1 := hid (HL1.out.below hb)
  have HB := hid (HB.out.trans (hb.mono HB.out.size))
  have hsv11 : v10.heap.size ≤ v11.heap.size := hb.size
  have HL2 := hid hl
  have HO2 := hid ho
  clear hl ho
  clear hb
  have FL5 := hid trivial
  have FL6 := hid trivial
  go_wp2_with (first
    | (have hfl := FL5.out
       refine wpList_new rfl 39 rfl _ Try.zeroPa ?_
       intro v12 b h z
       have SB := hid (show BoxAt v12 v11.heap.size 39 (PaV.cells PaV.zero).toArray from b)
       have QB := hid (QB.out.belowAll h)
       have HO1 := hid (HO1.out.below h)
       have HL1 := hid (HL1.out.below h)
       have HO2 := hid (HO2.out.below (by omega) h)
       have HL2 := hid (HL2.out.below h)
       have HB := hid (HB.out.trans (h.mono HB.out.size))
       have hsv12 : v11.heap.size + 1 ≤ v12.heap.size := by omega
       clear b h z hfl FL5)
    | (have hfl := FL6.out
       refine wpList_store_whole rfl 39 _ _ rfl rfl v11.heap.size rfl (PaV.cells q2) rfl _ _ SB.out rfl Try.infoPa (PaV.one _) ?_
       intro v13 b g z
       have hsv13 : v12.heap.size ≤ v13.heap.size := by omega
       have HO1 := hid (HO1.out.turn (Turns.grown (S := fun t => t = 39) SB.out b rfl g))
       have HL1 := hid (OI.turn (S := fun t => t = 39) HL1.out (by decide) (Turns.grown (S := fun t => t = 39) SB.out b rfl g))
       have HO2 := hid (HO2.out.put (by omega) (by omega) g SB.out b)
       have HL2 := hid (OI.turn (S := fun t => t = 39) HL2.out (by decide) (Turns.grown (S := fun t => t = 39) SB.out b rfl g))
       have SB := hid (show BoxAt v13 v11.heap.size 39 (PaV.cells q2).toArray from b)
       have QB := hid (QB.out.grown g (fun e => by have := Option.some.inj e; omega))
       have HB := hid (HB.out.trans (grown_below g (by omega) (by omega)))
       clear b g z hfl FL6)
    | (with_reducible refine wpList_dst 53 rfl ?_
       refine wpList_load_box rfl 39 _ rfl v8.heap.size rfl _ _ QB.out _ Try.underlying39 Try.infoPa ?_)
    | (with_reducible refine wpList_dst 54 rfl ?_
       refine wpList_load_box rfl 39 _ rfl v11.heap.size rfl _ _ SB.out _ Try.underlying39 Try.infoPa ?_)
    | fail)
  refine (same_eq HO1.out.sees HO2.out.at).mono ?_
  rintro e v14 ⟨rfl, hb⟩
  have QB := hid (QB.out.belowAll hb)
  have SB := hid (SB.out.belowAll hb)
  have HO1 := hid (HO1.out.below hb)
  have HL1 := hid (HL1.out.below hb)
  have HO2 := hid (HO2.out.below (by omega) hb)
  have HL2 := hid (HL2.out.below hb)
  have HB := hid (HB.out.trans (hb.mono HB.out.size))
  have hsv14 : v13.heap.size ≤ v14.heap.size := hb.size
  clear hb
  go_wp2_with fail
  refine (same_yes HL1.out.sees HL2.out.sees).mono ?_
  rintro e v15 ⟨rfl, hb⟩
  have HL1 := hid (HL1.out.below hb)
  have HL2 := hid (HL2.out.below hb)
  have HB := hid (HB.out.trans (hb.mono HB.out.size))
  have hsv15 : v14.heap.size ≤ v15.heap.size := hb.size
  clear hb
  go_wp2_with fail
  go_ret
  exact ⟨rfl, HB.out⟩
end Go.Proofs.Ytdanfnbclbiidaa
