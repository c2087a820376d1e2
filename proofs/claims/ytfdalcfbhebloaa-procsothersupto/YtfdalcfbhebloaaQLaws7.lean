/-
  ProcsOthers: what is done to one process changes no other one.
-/
import Derived.Test.YtfdalcfbhebloaaQLaws1
import Derived.Test.YtfdalcfbhebloaaQSame3E
import Derived.Test.YtfdalcfbhebloaaQLeaM
import Derived.Test.YtfdalcfbhebloaaQFacts4
namespace Go.Proofs.Ytfdalcfbhebloaa
open Go.RowKit
set_option linter.unusedVariables false

set_option maxRecDepth 100000 in
set_option maxHeartbeats 12800000 in
theorem walk_ProcsOthers (w : World) (x0 : PtX) (f0 : x0.fit w) (x1 : PaX) (f1 : x1.fit w) (i : Int) (w2 : (Lit.int .i64 i).wf = true) (n : Int) (w3 : (Lit.int .i64 n).wf = true) (kk : Int) (w4 : (Lit.int .i64 kk).wf = true) (hN : 2 * (x1.c.bo.length + x1.c.bu.length + x1.c.se.length + x1.c.ev.length) ≤ 1048576) :
    Calls Try.prog 5 #[x0.val, x1.val, .int .i64 i, .int .i64 n, .int .i64 kk] w fun e w' => e = .returned (.bool true) ∧ Below w.heap.size w w' := by
  obtain ⟨qc, cc⟩ := x0
  obtain ⟨q, c⟩ := x1
  unfold PtX.val PaX.val
  simp only at hN ⊢
  have HC := hid f0.1
  have HA := hid f1.1
  have HNm := hid (show c.bo.length + c.bu.length + c.se.length + c.ev.length ≤ 900000 by omega)
  obtain ⟨ac, cpc, hcv, hc1, hc2, hcell⟩ := HC.out.pc.form
  have hmaxc : cpc ≤ 9223372036854775807 := hc2
  have HCv := hid hcv
  have HCc := hid hcell
  clear hcv hc2 hcell
  obtain ⟨ap, cpp, hpv, hp1, hp2, hpcell⟩ := HA.out.pr.form
  have hmax : cpp ≤ 9223372036854775807 := hp2
  have HPv := hid hpv
  have HPc := hid hpcell
  clear hpv hp2 hpcell
  clear hN f0 f1 w2 w3 w4
  have HB := hid (Below.refl w.heap.size w)
  go_enter Try.func5, Try.ntmps5
  have FL1 := hid trivial
  have FL2 := hid trivial
  go_wp2_with (first
    | (have hfl := FL1.out
       refine wpList_box rfl 28 (.tmp 0) rfl (Pv.cells qc).toArray rfl ?_
       intro v1 b h z
       have CB := hid (show BoxAt v1 w.heap.size 28 (Pv.cells qc).toArray from b)
       have HB := hid (HB.out.trans (h.mono HB.out.size))
       have hsv1 : w.heap.size + 1 ≤ v1.heap.size := by omega
       clear b h z hfl FL1)
    | (have hfl := FL2.out
       refine wpList_box rfl 39 (.tmp 1) rfl (PaV.cells q).toArray rfl ?_
       intro v2 b h z
       have PB := hid (show BoxAt v2 v1.heap.size 39 (PaV.cells q).toArray from b)
       have CB := hid (CB.out.belowAll h)
       have HB := hid (HB.out.trans (h.mono HB.out.size))
       have hsv2 : v1.heap.size + 1 ≤ v2.heap.size := by omega
       clear b h z hfl FL2)
    | fail)
  refine (qawake_any _).mono ?_
  rintro e v3 ⟨rfl, hb⟩
  have CB := hid (CB.out.belowAll hb)
  have PB := hid (PB.out.belowAll hb)
  have HB := hid (HB.out.trans (hb.mono HB.out.size))
  have hsv3 : v2.heap.size ≤ v3.heap.size := hb.size
  clear hb
  go_wp2_with (first
    | (refine wpList_load_box rfl 39 _ rfl v1.heap.size rfl _ _ PB.out _ Try.underlying39 Try.infoPa ?_)
    | fail)
  refine (few_tot (HA.out.below HB.out) HNm.out).mono ?_
  rintro e v4 ⟨⟨ok, rfl, hok⟩, hb⟩
  have CB := hid (CB.out.belowAll hb)
  have PB := hid (PB.out.belowAll hb)
  have HB := hid (HB.out.trans (hb.mono HB.out.size))
  have hsv4 : v3.heap.size ≤ v4.heap.size := hb.size
  have HOk := hid hok
  clear hok
  clear hb
  have kCB2 : v4.cell? ⟨w.heap.size, 2, none⟩ = some (.slice ac cc.pc.length cpc) := (BoxAt.cell CB.out 2).trans (by show some qc.v2.val = _; rw [HCv.out])
  have kPB4 : v4.cell? ⟨v1.heap.size, 4, none⟩ = some (.slice ap c.pr.length cpp) := (BoxAt.cell PB.out 4).trans (by show some q.pr.val = _; rw [HPv.out])
  rcases ok with _ | _
  · go_wp2
    go_ret
    exact ⟨rfl, HB.out⟩
  have HT := hid (HOk.out rfl)
  have HSm := hid HT.out.small
  clear HOk
  by_cases hbig : (20 : Int) < (cc.pc.length : Int)
  · go_wp2
    go_ret
    exact ⟨rfl, HB.out⟩
  by_cases hn0 : kk < 0
  · go_wp2
    go_ret
    exact ⟨rfl, HB.out⟩
  by_cases hn1 : 4 < kk
  · go_wp2
    go_ret
    exact ⟨rfl, HB.out⟩
  have hd1 : decide ((20 : Int) < (cc.pc.length : Int)) = false := decide_eq_false hbig
  have hd2 : decide (kk < 0) = false := decide_eq_false hn0
  have hd3 : decide ((4 : Int) < kk) = false := decide_eq_false hn1
  go_wp2_with (first
    | (refine wpList_load_box rfl 28 _ rfl w.heap.size rfl _ _ CB.out _ Try.underlying28 Try.infoPv ?_)
    | (refine wpList_load_box rfl 39 _ rfl v1.heap.size rfl _ _ PB.out _ Try.underlying39 Try.infoPa ?_)
    | fail)
  clear hd1 hd2 hd3 hbig hn0 hn1
  have HKp := hid (kept_change cc c kk i n)
  have HDf := hid (change_differs cc c kk i n)
  obtain ⟨⟨D, kd⟩, hD⟩ : ∃ D, changeP cc c kk i n = D := ⟨_, rfl⟩
  rw [hD] at HKp HDf
  have HD := hid hD
  clear hD
  have HLD := hid (show D.pr.length = c.pr.length from HKp.out.len)
  refine (lchange_any (k := kk) (i := i) (n := n) (HC.out.below HB.out) (HA.out.below HB.out) HSm.out).mono ?_
  rintro e v5 ⟨qa, rfl, ho, hb⟩
  have CB := hid (CB.out.belowAll hb)
  have PB := hid (PB.out.belowAll hb)
  have HB := hid (HB.out.trans (hb.mono HB.out.size))
  have hsv5 : v4.heap.size ≤ v5.heap.size := hb.size
  rw [HD.out] at ho ⊢
  have HO1 := hid ho
  obtain ⟨a1, cp1, hv, hm0, hm1, hg⟩ := row_form ho.pr
  rw [HLD.out] at hv hm0 hg
  have HV1 := hid hv
  have HG1 := hid hg
  have hcl1 : c.pr.length ≤ cp1 := hm0
  have hcm1 : cp1 ≤ 9223372036854775807 := hm1
  clear ho hv hm0 hm1 hg
  clear kCB2
  have kCB2 : v5.cell? ⟨w.heap.size, 2, none⟩ = some (.slice ac cc.pc.length cpc) := (BoxAt.cell CB.out 2).trans (by show some qc.v2.val = _; rw [HCv.out])
  clear kPB4
  have kPB4 : v5.cell? ⟨v1.heap.size, 4, none⟩ = some (.slice ap c.pr.length cpp) := (BoxAt.cell PB.out 4).trans (by show some q.pr.val = _; rw [HPv.out])
  clear hb
  have HBa := hid (Below.refl v5.heap.size v5)
  have td1 : decide (kd < 0) = false := decide_eq_false (by have := HKp.out.low; simp only at this; omega)
  have td2 : decide ((4 : Int) < kd) = false := decide_eq_false (by have := HKp.out.top; simp only at this; omega)
  have FL3 := hid trivial
  have FL4 := hid trivial
  go_wp2_with (first
    | (have hfl := FL3.out
       refine wpList_new rfl 39 rfl _ Try.zeroPa ?_
       intro v6 b h z
       have QB := hid (show BoxAt v6 v5.heap.size 39 (PaV.cells PaV.zero).toArray from b)
       have CB := hid (CB.out.belowAll h)
       have PB := hid (PB.out.belowAll h)
       have HBa := hid (HBa.out.trans (h.mono (by omega)))
       have HB := hid (HB.out.trans (h.mono HB.out.size))
       have hsv6 : v5.heap.size + 1 ≤ v6.heap.size := by omega
       clear kPB4
       have kPB4 : v6.cell? ⟨v1.heap.size, 4, none⟩ = some (.slice ap c.pr.length cpp) := (BoxAt.cell PB.out 4).trans (by show some q.pr.val = _; rw [HPv.out])
       clear b h z hfl FL3)
    | (have hfl := FL4.out
       refine wpList_store_whole rfl 39 _ _ rfl rfl v5.heap.size rfl (PaV.cells qa) rfl _ _ QB.out rfl Try.infoPa (PaV.one _) ?_
       intro v7 b g z
       have hsv7 : v6.heap.size ≤ v7.heap.size := by omega
       have HBa := hid (HBa.out.trans (grown_below g (by omega) (by omega)))
       have QB := hid (show BoxAt v7 v5.heap.size 39 (PaV.cells qa).toArray from b)
       have CB := hid (CB.out.grown g (fun e => by have := Option.some.inj e; omega))
       have PB := hid (PB.out.grown g (fun e => by have := Option.some.inj e; omega))
       have HB := hid (HB.out.trans (grown_below g (by omega) (by omega)))
       clear kPB4
       have kPB4 : v7.cell? ⟨v1.heap.size, 4, none⟩ = some (.slice ap c.pr.length cpp) := (BoxAt.cell PB.out 4).trans (by show some q.pr.val = _; rw [HPv.out])
       have kQB4 : v7.cell? ⟨v5.heap.size, 4, none⟩ = some (.slice a1 c.pr.length cp1) := (BoxAt.cell QB.out 4).trans (by show some qa.pr.val = _; rw [HV1.out])
       clear b g z hfl FL4)
    | fail)
  clear td1 td2
  go_loopw [15] (fun t wr => ∃ j : Nat, j ≤ c.pr.length ∧ t = .int .i64 j ∧ Hid (BoxAt wr v1.heap.size 39 (PaV.cells q).toArray) ∧ Hid (BoxAt wr v5.heap.size 39 (PaV.cells qa).toArray) ∧ Hid (Below v5.heap.size v5 wr) ∧ Hid (Below w.heap.size w wr) ∧ v7.heap.size ≤ wr.heap.size) (fun t _ => c.pr.length - (intOf t).toNat)
  case atStart => exact ⟨0, by omega, rfl, PB, QB, HBa, HB, Nat.le_refl _⟩
  case round =>
    clear PB QB HBa HB CB kPB4 kQB4
    obtain ⟨j, hj, rfl, PB, QB, HBa, HB, hsr⟩ := hrel
    have kPB4 : wr.cell? ⟨v1.heap.size, 4, none⟩ = some (.slice ap c.pr.length cpp) := (BoxAt.cell PB.out 4).trans (by show some q.pr.val = _; rw [HPv.out])
    have kQB4 : wr.cell? ⟨v5.heap.size, 4, none⟩ = some (.slice a1 c.pr.length cp1) := (BoxAt.cell QB.out 4).trans (by show some qa.pr.val = _; rw [HV1.out])
    by_cases hlt : j < c.pr.length
    · have HLt := hid hlt
      obtain ⟨g1, ha1, hgl0, hgl1⟩ := HG1.out (by omega)
      subst ha1
      obtain ⟨b1, off, rfl, hbw, hpx⟩ := HPc.out (by omega)
      have HPx := hid (show PxAt w b1 (off + j * 18) (c.pr.getD j Px.zero) from fun m hm => hpx j hlt m hm)
      clear hpx
      have HQx := hid (show PxAt v5 g1 (j * 18) (D.pr.getD j Px.zero) from by have h4 := HO1.out.pr; rw [HV1.out, ← HLD.out] at h4; exact OP.at h4 j (by rw [HLD.out]; exact HLt.out))
      go_wp2_with fail
      have PB := hid (BoxAt.drew PB.out)
      have QB := hid (BoxAt.drew QB.out)
      have HBa := hid HBa.out.drew
      have HB := hid HB.out.drew
      have hsr : v7.heap.size ≤ wr.drew.heap.size := hsr
      clear kPB4 kQB4
      by_cases hji : (j : Int) = i
      · have te : ((j : Int) != i) = false := by rw [hji]; exact bne_self_eq_false _
        subst hji
        refine wp_region_held_drew (S := (fun W => True)) (by kernel_rfl) (trivial) (fun hHeld => ?_)
        refine wpAnyH_take (i := 0) (oi := { dst := some 72, op := Op.move (Operand.tmp 15), type := 3, pos := "law.go:149", after := #[], guard := none }) (v := ?v4001) rfl (by kernel_rfl) (by kernel_rfl) (by kernel_rfl) (fun _ _ _ h => h) (Or.inl ⟨by rfl, ?hy4001⟩) (by assumption) ?rest4001
        case hy4001 => (intro w hSw; (try dsimp only at hSw); go_simp; try with_reducible rfl)
        simp only [Act.put, List.setIfInBounds_toArray, List.set_cons_zero, List.set_cons_succ]
        refine wpAnyH_take (i := 1) (oi := { dst := some 73, op := Op.move (Operand.tmp 2), type := 3, pos := "law.go:149", after := #[], guard := none }) (v := ?v4002) rfl (by kernel_rfl) (by kernel_rfl) (by kernel_rfl) (fun _ _ _ h => h) (Or.inl ⟨by rfl, ?hy4002⟩) (by assumption) ?rest4002
        case hy4002 => (intro w hSw; (try dsimp only at hSw); go_simp; try with_reducible rfl)
        simp only [Act.put, List.setIfInBounds_toArray, List.set_cons_zero, List.set_cons_succ]
        refine wpAnyH_take (i := 2) (oi := { dst := some 74, op := Op.binOp BinOp.neq 3 (Operand.tmp 72) (Operand.tmp 73) 3, type := 4, pos := "law.go:149", after := #[{ on := 0, ground := Ground.data }, { on := 1, ground := Ground.data }], guard := none }) (v := ?v4003) rfl (by kernel_rfl) (by kernel_rfl) (by kernel_rfl) (fun _ _ _ h => h) (Or.inl ⟨by rfl, ?hy4003⟩) (by assumption) ?rest4003
        case hy4003 => (intro w hSw; (try dsimp only at hSw); go_simp; try with_reducible rfl)
        simp only [Act.put, List.setIfInBounds_toArray, List.set_cons_zero, List.set_cons_succ]
        refine wpAnyH_take (i := 3) (oi := { dst := some 75, op := Op.move (Operand.tmp 74), type := 4, pos := "law.go:149", after := #[{ on := 2, ground := Ground.data }], guard := none }) (v := ?v4004) rfl (by kernel_rfl) (by kernel_rfl) (by kernel_rfl) (fun _ _ _ h => h) (Or.inl ⟨by rfl, ?hy4004⟩) (by assumption) ?rest4004
        case hy4004 => (intro w hSw; (try dsimp only at hSw); go_simp; try with_reducible rfl)
        simp only [Act.put, List.setIfInBounds_toArray, List.set_cons_zero, List.set_cons_succ]
        refine wpAnyH_take (i := 4) (oi := { dst := some 76, op := Op.fieldAddr 39 (Operand.tmp 13) 4, type := 0, pos := "law.go:149", after := #[{ on := 3, ground := Ground.guard }], guard := some (3, true) }) (v := undef) rfl (by kernel_rfl) (by kernel_rfl) (by kernel_rfl) (fun _ _ _ h => h) (Or.inr ⟨by rfl, rfl⟩) (by assumption) ?_
        simp only [Act.put, List.setIfInBounds_toArray, List.set_cons_zero, List.set_cons_succ]
        refine wpAnyH_take (i := 5) (oi := { dst := some 77, op := Op.load 29 (Operand.tmp 76), type := 29, pos := "law.go:149", after := #[{ on := 4, ground := Ground.data }, { on := 3, ground := Ground.guard }], guard := some (3, true) }) (v := undef) rfl (by kernel_rfl) (by kernel_rfl) (by kernel_rfl) (fun _ _ _ h => h) (Or.inr ⟨by rfl, rfl⟩) (by assumption) ?_
        simp only [Act.put, List.setIfInBounds_toArray, List.set_cons_zero, List.set_cons_succ]
        refine wpAnyH_take (i := 6) (oi := { dst := some 78, op := Op.move (Operand.tmp 15), type := 3, pos := "law.go:149", after := #[{ on := 3, ground := Ground.guard }], guard := some (3, true) }) (v := undef) rfl (by kernel_rfl) (by kernel_rfl) (by kernel_rfl) (fun _ _ _ h => h) (Or.inr ⟨by rfl, rfl⟩) (by assumption) ?_
        simp only [Act.put, List.setIfInBounds_toArray, List.set_cons_zero, List.set_cons_succ]
        refine wpAnyH_take (i := 7) (oi := { dst := some 79, op := Op.indexAddr 29 (Operand.tmp 77) (Operand.tmp 78), type := 0, pos := "law.go:149", after := #[{ on := 5, ground := Ground.data }, { on := 6, ground := Ground.data }, { on := 3, ground := Ground.guard }], guard := some (3, true) }) (v := undef) rfl (by kernel_rfl) (by kernel_rfl) (by kernel_rfl) (fun _ _ _ h => h) (Or.inr ⟨by rfl, rfl⟩) (by assumption) ?_
        simp only [Act.put, List.setIfInBounds_toArray, List.set_cons_zero, List.set_cons_succ]
        refine wpAnyH_take (i := 8) (oi := { dst := some 80, op := Op.load 58 (Operand.tmp 79), type := 58, pos := "law.go:149", after := #[{ on := 7, ground := Ground.data }, { on := 3, ground := Ground.guard }], guard := some (3, true) }) (v := undef) rfl (by kernel_rfl) (by kernel_rfl) (by kernel_rfl) (fun _ _ _ h => h) (Or.inr ⟨by rfl, rfl⟩) (by assumption) ?_
        simp only [Act.put, List.setIfInBounds_toArray, List.set_cons_zero, List.set_cons_succ]
        refine wpAnyH_take (i := 9) (oi := { dst := some 81, op := Op.fieldAddr 39 (Operand.tmp 6) 4, type := 0, pos := "law.go:149", after := #[{ on := 3, ground := Ground.guard }], guard := some (3, true) }) (v := undef) rfl (by kernel_rfl) (by kernel_rfl) (by kernel_rfl) (fun _ _ _ h => h) (Or.inr ⟨by rfl, rfl⟩) (by assumption) ?_
        simp only [Act.put, List.setIfInBounds_toArray, List.set_cons_zero, List.set_cons_succ]
        refine wpAnyH_take (i := 10) (oi := { dst := some 82, op := Op.load 29 (Operand.tmp 81), type := 29, pos := "law.go:149", after := #[{ on := 9, ground := Ground.data }, { on := 3, ground := Ground.guard }], guard := some (3, true) }) (v := undef) rfl (by kernel_rfl) (by kernel_rfl) (by kernel_rfl) (fun _ _ _ h => h) (Or.inr ⟨by rfl, rfl⟩) (by assumption) ?_
        simp only [Act.put, List.setIfInBounds_toArray, List.set_cons_zero, List.set_cons_succ]
        refine wpAnyH_take (i := 11) (oi := { dst := some 83, op := Op.move (Operand.tmp 15), type := 3, pos := "law.go:149", after := #[{ on := 3, ground := Ground.guard }], guard := some (3, true) }) (v := undef) rfl (by kernel_rfl) (by kernel_rfl) (by kernel_rfl) (fun _ _ _ h => h) (Or.inr ⟨by rfl, rfl⟩) (by assumption) ?_
        simp only [Act.put, List.setIfInBounds_toArray, List.set_cons_zero, List.set_cons_succ]
        refine wpAnyH_take (i := 12) (oi := { dst := some 84, op := Op.indexAddr 29 (Operand.tmp 82) (Operand.tmp 83), type := 0, pos := "law.go:149", after := #[{ on := 10, ground := Ground.data }, { on := 11, ground := Ground.data }, { on := 3, ground := Ground.guard }], guard := some (3, true) }) (v := undef) rfl (by kernel_rfl) (by kernel_rfl) (by kernel_rfl) (fun _ _ _ h => h) (Or.inr ⟨by rfl, rfl⟩) (by assumption) ?_
        simp only [Act.put, List.setIfInBounds_toArray, List.set_cons_zero, List.set_cons_succ]
        refine wpAnyH_take (i := 13) (oi := { dst := some 85, op := Op.load 58 (Operand.tmp 84), type := 58, pos := "law.go:149", after := #[{ on := 12, ground := Ground.data }, { on := 3, ground := Ground.guard }], guard := some (3, true) }) (v := undef) rfl (by kernel_rfl) (by kernel_rfl) (by kernel_rfl) (fun _ _ _ h => h) (Or.inr ⟨by rfl, rfl⟩) (by assumption) ?_
        simp only [Act.put, List.setIfInBounds_toArray, List.set_cons_zero, List.set_cons_succ]
        refine wpAnyH_take (i := 14) (oi := { dst := some 86, op := Op.binOp BinOp.neq 58 (Operand.tmp 80) (Operand.tmp 85) 58, type := 4, pos := "law.go:149", after := #[{ on := 8, ground := Ground.data }, { on := 13, ground := Ground.data }, { on := 3, ground := Ground.guard }], guard := some (3, true) }) (v := undef) rfl (by kernel_rfl) (by kernel_rfl) (by kernel_rfl) (fun _ _ _ h => h) (Or.inr ⟨by rfl, rfl⟩) (by assumption) ?_
        simp only [Act.put, List.setIfInBounds_toArray, List.set_cons_zero, List.set_cons_succ]
        refine wpAnyH_take (i := 15) (oi := { dst := some 87, op := Op.pick (Operand.tmp 75) (Operand.tmp 86) (Operand.const (Value.bool false)), type := 4, pos := "law.go:149", after := #[{ on := 3, ground := Ground.data }, { on := 14, ground := Ground.data }], guard := none }) (v := ?v4016) rfl (by kernel_rfl) (by kernel_rfl) (by kernel_rfl) (fun _ _ _ h => h) (Or.inl ⟨by rfl, ?hy4016⟩) (by assumption) ?rest4016
        case hy4016 => (intro w hSw; (try dsimp only at hSw); go_simp; try with_reducible rfl)
        simp only [Act.put, List.setIfInBounds_toArray, List.set_cons_zero, List.set_cons_succ]
        refine wpAnyH_done (by kernel_rfl) ?_ _
        clear hHeld
        go_wp2_with fail
        go_roundw
        case rel => exact ⟨j + 1, by have := HLt.out; omega, by go_num, PB, QB, HBa, HB, hsr⟩
        case measure => have := HLt.out; simp [intOf]; omega
      · have te : ((j : Int) != i) = true := by simpa using hji
        rw [show D.pr.getD j Px.zero = c.pr.getD j Px.zero from HKp.out.oth j hji] at HQx
        clear hji
        generalize c.pr.getD j Px.zero = x at HPx HQx
        obtain ⟨B, hnq, hB⟩ := eq_Px x x
        obtain rfl : B = true := hB rfl
        have HNq := hid hnq
        clear hnq hB
        refine wp_region_held_drew (S := (fun W => W.cell? ⟨v5.heap.size, 4, none⟩ = some (.slice (some ⟨g1, 0, none⟩) c.pr.length cp1) ∧ W.cell? ⟨v1.heap.size, 4, none⟩ = some (.slice (some ⟨b1, off, none⟩) c.pr.length cpp) ∧ PxAt W g1 (j * 18) x ∧ PxAt W b1 (off + j * 18) x)) (by kernel_rfl) (⟨(BoxAt.cell QB.out 4).trans (by show some qa.pr.val = _; rw [HV1.out]), (BoxAt.cell PB.out 4).trans (by show some q.pr.val = _; rw [HPv.out]), HQx.out.below HBa.out (by omega), HPx.out.below HB.out hbw⟩) (fun hHeld => ?_)
        refine wpAnyH_take (i := 0) (oi := { dst := some 72, op := Op.move (Operand.tmp 15), type := 3, pos := "law.go:149", after := #[], guard := none }) (v := ?v5001) rfl (by kernel_rfl) (by kernel_rfl) (by kernel_rfl) (fun _ _ _ h => h) (Or.inl ⟨by rfl, ?hy5001⟩) (by assumption) ?rest5001
        case hy5001 => (intro W hSw; clear hSw; go_simp; try with_reducible rfl)
        simp only [Act.put, List.setIfInBounds_toArray, List.set_cons_zero, List.set_cons_succ]
        refine wpAnyH_take (i := 1) (oi := { dst := some 73, op := Op.move (Operand.tmp 2), type := 3, pos := "law.go:149", after := #[], guard := none }) (v := ?v5002) rfl (by kernel_rfl) (by kernel_rfl) (by kernel_rfl) (fun _ _ _ h => h) (Or.inl ⟨by rfl, ?hy5002⟩) (by assumption) ?rest5002
        case hy5002 => (intro W hSw; clear hSw; go_simp; try with_reducible rfl)
        simp only [Act.put, List.setIfInBounds_toArray, List.set_cons_zero, List.set_cons_succ]
        refine wpAnyH_take (i := 2) (oi := { dst := some 74, op := Op.binOp BinOp.neq 3 (Operand.tmp 72) (Operand.tmp 73) 3, type := 4, pos := "law.go:149", after := #[{ on := 0, ground := Ground.data }, { on := 1, ground := Ground.data }], guard := none }) (v := ?v5003) rfl (by kernel_rfl) (by kernel_rfl) (by kernel_rfl) (fun _ _ _ h => h) (Or.inl ⟨by rfl, ?hy5003⟩) (by assumption) ?rest5003
        case hy5003 => (intro W hSw; clear hSw; go_simp; try with_reducible rfl)
        simp only [Act.put, List.setIfInBounds_toArray, List.set_cons_zero, List.set_cons_succ]
        refine wpAnyH_take (i := 3) (oi := { dst := some 75, op := Op.move (Operand.tmp 74), type := 4, pos := "law.go:149", after := #[{ on := 2, ground := Ground.data }], guard := none }) (v := ?v5004) rfl (by kernel_rfl) (by kernel_rfl) (by kernel_rfl) (fun _ _ _ h => h) (Or.inl ⟨by rfl, ?hy5004⟩) (by assumption) ?rest5004
        case hy5004 => (intro W hSw; clear hSw; go_simp; try with_reducible rfl)
        simp only [Act.put, List.setIfInBounds_toArray, List.set_cons_zero, List.set_cons_succ]
        refine wpAnyH_take (i := 4) (oi := { dst := some 76, op := Op.fieldAddr 39 (Operand.tmp 13) 4, type := 0, pos := "law.go:149", after := #[{ on := 3, ground := Ground.guard }], guard := some (3, true) }) (v := ?v5005) rfl (by kernel_rfl) (by kernel_rfl) (by kernel_rfl) (fun _ _ _ h => h) (Or.inl ⟨by rfl, ?hy5005⟩) (by assumption) ?rest5005
        case hy5005 => (intro W hSw; clear hSw; go_simp; try with_reducible rfl)
        simp only [Act.put, List.setIfInBounds_toArray, List.set_cons_zero, List.set_cons_succ]
        refine wpAnyH_take (i := 5) (oi := { dst := some 77, op := Op.load 29 (Operand.tmp 76), type := 29, pos := "law.go:149", after := #[{ on := 4, ground := Ground.data }, { on := 3, ground := Ground.guard }], guard := some (3, true) }) (v := ?v5006) rfl (by kernel_rfl) (by kernel_rfl) (by kernel_rfl) (fun _ _ _ h => h) (Or.inl ⟨by rfl, ?hy5006⟩) (by assumption) ?rest5006
        case hy5006 => (intro W hSw; obtain ⟨e1, e2, e3, e4⟩ := hSw; clear e3 e4; go_simp; try with_reducible rfl)
        simp only [Act.put, List.setIfInBounds_toArray, List.set_cons_zero, List.set_cons_succ]
        refine wpAnyH_take (i := 6) (oi := { dst := some 78, op := Op.move (Operand.tmp 15), type := 3, pos := "law.go:149", after := #[{ on := 3, ground := Ground.guard }], guard := some (3, true) }) (v := ?v5007) rfl (by kernel_rfl) (by kernel_rfl) (by kernel_rfl) (fun _ _ _ h => h) (Or.inl ⟨by rfl, ?hy5007⟩) (by assumption) ?rest5007
        case hy5007 => (intro W hSw; clear hSw; go_simp; try with_reducible rfl)
        simp only [Act.put, List.setIfInBounds_toArray, List.set_cons_zero, List.set_cons_succ]
        refine wpAnyH_take (i := 7) (oi := { dst := some 79, op := Op.indexAddr 29 (Operand.tmp 77) (Operand.tmp 78), type := 0, pos := "law.go:149", after := #[{ on := 5, ground := Ground.data }, { on := 6, ground := Ground.data }, { on := 3, ground := Ground.guard }], guard := some (3, true) }) (v := ?v5008) rfl (by kernel_rfl) (by kernel_rfl) (by kernel_rfl) (fun _ _ _ h => h) (Or.inl ⟨by rfl, ?hy5008⟩) (by assumption) ?rest5008
        case hy5008 => (intro W hSw; clear hSw; go_simp; try with_reducible rfl)
        simp only [Act.put, List.setIfInBounds_toArray, List.set_cons_zero, List.set_cons_succ]
        refine wpAnyH_take (i := 8) (oi := { dst := some 80, op := Op.load 58 (Operand.tmp 79), type := 58, pos := "law.go:149", after := #[{ on := 7, ground := Ground.data }, { on := 3, ground := Ground.guard }], guard := some (3, true) }) (v := ?v5009) rfl (by kernel_rfl) (by kernel_rfl) (by kernel_rfl) (fun _ _ _ h => h) (Or.inl ⟨by rfl, ?hy5009⟩) (by assumption) ?rest5009
        case hy5009 => (intro W hSw; refine px_yields (.tmp 79) ?_ g1 (j * 18) ?_ x hSw.2.2.1 <;> rfl)
        simp only [Act.put, List.setIfInBounds_toArray, List.set_cons_zero, List.set_cons_succ]
        refine wpAnyH_take (i := 9) (oi := { dst := some 81, op := Op.fieldAddr 39 (Operand.tmp 6) 4, type := 0, pos := "law.go:149", after := #[{ on := 3, ground := Ground.guard }], guard := some (3, true) }) (v := ?v5010) rfl (by kernel_rfl) (by kernel_rfl) (by kernel_rfl) (fun _ _ _ h => h) (Or.inl ⟨by rfl, ?hy5010⟩) (by assumption) ?rest5010
        case hy5010 => (intro W hSw; clear hSw; go_simp; try with_reducible rfl)
        simp only [Act.put, List.setIfInBounds_toArray, List.set_cons_zero, List.set_cons_succ]
        refine wpAnyH_take (i := 10) (oi := { dst := some 82, op := Op.load 29 (Operand.tmp 81), type := 29, pos := "law.go:149", after := #[{ on := 9, ground := Ground.data }, { on := 3, ground := Ground.guard }], guard := some (3, true) }) (v := ?v5011) rfl (by kernel_rfl) (by kernel_rfl) (by kernel_rfl) (fun _ _ _ h => h) (Or.inl ⟨by rfl, ?hy5011⟩) (by assumption) ?rest5011
        case hy5011 => (intro W hSw; obtain ⟨e1, e2, e3, e4⟩ := hSw; clear e3 e4; go_simp; try with_reducible rfl)
        simp only [Act.put, List.setIfInBounds_toArray, List.set_cons_zero, List.set_cons_succ]
        refine wpAnyH_take (i := 11) (oi := { dst := some 83, op := Op.move (Operand.tmp 15), type := 3, pos := "law.go:149", after := #[{ on := 3, ground := Ground.guard }], guard := some (3, true) }) (v := ?v5012) rfl (by kernel_rfl) (by kernel_rfl) (by kernel_rfl) (fun _ _ _ h => h) (Or.inl ⟨by rfl, ?hy5012⟩) (by assumption) ?rest5012
        case hy5012 => (intro W hSw; clear hSw; go_simp; try with_reducible rfl)
        simp only [Act.put, List.setIfInBounds_toArray, List.set_cons_zero, List.set_cons_succ]
        refine wpAnyH_take (i := 12) (oi := { dst := some 84, op := Op.indexAddr 29 (Operand.tmp 82) (Operand.tmp 83), type := 0, pos := "law.go:149", after := #[{ on := 10, ground := Ground.data }, { on := 11, ground := Ground.data }, { on := 3, ground := Ground.guard }], guard := some (3, true) }) (v := ?v5013) rfl (by kernel_rfl) (by kernel_rfl) (by kernel_rfl) (fun _ _ _ h => h) (Or.inl ⟨by rfl, ?hy5013⟩) (by assumption) ?rest5013
        case hy5013 => (intro W hSw; clear hSw; go_simp; try with_reducible rfl)
        simp only [Act.put, List.setIfInBounds_toArray, List.set_cons_zero, List.set_cons_succ]
        refine wpAnyH_take (i := 13) (oi := { dst := some 85, op := Op.load 58 (Operand.tmp 84), type := 58, pos := "law.go:149", after := #[{ on := 12, ground := Ground.data }, { on := 3, ground := Ground.guard }], guard := some (3, true) }) (v := ?v5014) rfl (by kernel_rfl) (by kernel_rfl) (by kernel_rfl) (fun _ _ _ h => h) (Or.inl ⟨by rfl, ?hy5014⟩) (by assumption) ?rest5014
        case hy5014 => (intro W hSw; refine px_yields (.tmp 84) ?_ b1 (off + j * 18) ?_ x hSw.2.2.2 <;> rfl)
        simp only [Act.put, List.setIfInBounds_toArray, List.set_cons_zero, List.set_cons_succ]
        refine wpAnyH_take (i := 14) (oi := { dst := some 86, op := Op.binOp BinOp.neq 58 (Operand.tmp 80) (Operand.tmp 85) 58, type := 4, pos := "law.go:149", after := #[{ on := 8, ground := Ground.data }, { on := 13, ground := Ground.data }, { on := 3, ground := Ground.guard }], guard := some (3, true) }) (v := ?v5015) rfl (by kernel_rfl) (by kernel_rfl) (by kernel_rfl) (fun _ _ _ h => h) (Or.inl ⟨by rfl, ?hy5015⟩) (by assumption) ?rest5015
        case hy5015 => (intro W hSw; refine neq_yields 58 58 (.tmp 80) (.tmp 85) ?_ x.cells.toArray x.cells.toArray ?_ ?_ true HNq.out (by kernel_rfl) W <;> rfl)
        simp only [Act.put, List.setIfInBounds_toArray, List.set_cons_zero, List.set_cons_succ]
        refine wpAnyH_take (i := 15) (oi := { dst := some 87, op := Op.pick (Operand.tmp 75) (Operand.tmp 86) (Operand.const (Value.bool false)), type := 4, pos := "law.go:149", after := #[{ on := 3, ground := Ground.data }, { on := 14, ground := Ground.data }], guard := none }) (v := ?v5016) rfl (by kernel_rfl) (by kernel_rfl) (by kernel_rfl) (fun _ _ _ h => h) (Or.inl ⟨by rfl, ?hy5016⟩) (by assumption) ?rest5016
        case hy5016 => (intro W hSw; clear hSw; go_simp; try with_reducible rfl)
        simp only [Act.put, List.setIfInBounds_toArray, List.set_cons_zero, List.set_cons_succ]
        refine wpAnyH_done (by kernel_rfl) ?_ _
        clear hHeld
        go_wp2_with fail
        go_roundw
        case rel => exact ⟨j + 1, by have := HLt.out; omega, by go_num, PB, QB, HBa, HB, hsr⟩
        case measure => have := HLt.out; simp [intOf]; omega
    · have hje : j = c.pr.length := by omega
      subst hje
      clear hj hlt
      go_wp2_with (first
        | (refine wpList_load_box rfl 39 _ rfl v1.heap.size rfl _ _ PB.out _ Try.underlying39 Try.infoPa ?_)
        | (refine wpList_load_box rfl 39 _ rfl v5.heap.size rfl _ _ QB.out _ Try.underlying39 Try.infoPa ?_)
        | fail)
      by_cases hkd : kd = 0
      · subst hkd
        have HDi := hid (HDf.out rfl)
        rcases HDi.out.d with hd | ⟨hn, i0, h0, h1, h2⟩ | hd
        · have HX := hid hd
          clear hd
          refine (same_nx (HA.out.below HB.out) (HO1.out.below HBa.out).sees HDi.out.md HDi.out.bg HX.out).mono ?_
          rintro e v8 ⟨rfl, hb⟩
          have PB := hid (PB.out.belowAll hb)
          have QB := hid (QB.out.belowAll hb)
          have HBa := hid (HBa.out.trans (hb.mono (by omega)))
          have HB := hid (HB.out.trans (hb.mono HB.out.size))
          have hsv8 : wr.heap.size ≤ v8.heap.size := hb.size
          clear kPB4
          have kPB4 : v8.cell? ⟨v1.heap.size, 4, none⟩ = some (.slice ap c.pr.length cpp) := (BoxAt.cell PB.out 4).trans (by show some q.pr.val = _; rw [HPv.out])
          clear kQB4
          have kQB4 : v8.cell? ⟨v5.heap.size, 4, none⟩ = some (.slice a1 c.pr.length cp1) := (BoxAt.cell QB.out 4).trans (by show some qa.pr.val = _; rw [HV1.out])
          clear hb
          go_wp2
          go_ret
          exact ⟨rfl, HB.out⟩
        · have HX := hid hn
          have H0 := hid h0
          have H1 := hid h1
          have H2 := hid h2
          clear hn h0 h1 h2
          refine (same_pr (HA.out.below HB.out) (HO1.out.below HBa.out).sees HDi.out.md HDi.out.bg HX.out HLD.out.symm (congrArg List.length HDi.out.sa) (congrArg List.length HDi.out.qu) i0 H0.out H1.out H2.out).mono ?_
          rintro e v9 ⟨rfl, hb⟩
          have PB := hid (PB.out.belowAll hb)
          have QB := hid (QB.out.belowAll hb)
          have HBa := hid (HBa.out.trans (hb.mono (by omega)))
          have HB := hid (HB.out.trans (hb.mono HB.out.size))
          have hsv9 : wr.heap.size ≤ v9.heap.size := hb.size
          clear kPB4
          have kPB4 : v9.cell? ⟨v1.heap.size, 4, none⟩ = some (.slice ap c.pr.length cpp) := (BoxAt.cell PB.out 4).trans (by show some q.pr.val = _; rw [HPv.out])
          clear kQB4
          have kQB4 : v9.cell? ⟨v5.heap.size, 4, none⟩ = some (.slice a1 c.pr.length cp1) := (BoxAt.cell QB.out 4).trans (by show some qa.pr.val = _; rw [HV1.out])
          clear hb
          go_wp2
          go_ret
          exact ⟨rfl, HB.out⟩
        · have HX := hid hd
          clear hd
          refine (same_eq (HA.out.below HB.out) (by have h := (HO1.out.below HBa.out).sees; rw [HX.out] at h; exact h)).mono ?_
          rintro e v10 ⟨rfl, hb⟩
          have PB := hid (PB.out.belowAll hb)
          have QB := hid (QB.out.belowAll hb)
          have HBa := hid (HBa.out.trans (hb.mono (by omega)))
          have HB := hid (HB.out.trans (hb.mono HB.out.size))
          have hsv10 : wr.heap.size ≤ v10.heap.size := hb.size
          clear kPB4
          have kPB4 : v10.cell? ⟨v1.heap.size, 4, none⟩ = some (.slice ap c.pr.length cpp) := (BoxAt.cell PB.out 4).trans (by show some q.pr.val = _; rw [HPv.out])
          clear kQB4
          have kQB4 : v10.cell? ⟨v5.heap.size, 4, none⟩ = some (.slice a1 c.pr.length cp1) := (BoxAt.cell QB.out 4).trans (by show some qa.pr.val = _; rw [HV1.out])
          clear hb
          go_wp2
          go_ret
          exact ⟨rfl, HB.out⟩
      · have HX := hid (show D = c from HKp.out.idle hkd)
        have tk : (kd == 0) = false := by simpa using hkd
        clear hkd
        refine (same_eq (HA.out.below HB.out) (by have h := (HO1.out.below HBa.out).sees; rw [HX.out] at h; exact h)).mono ?_
        rintro e v11 ⟨rfl, hb⟩
        have PB := hid (PB.out.belowAll hb)
        have QB := hid (QB.out.belowAll hb)
        have HBa := hid (HBa.out.trans (hb.mono (by omega)))
        have HB := hid (HB.out.trans (hb.mono HB.out.size))
        have hsv11 : wr.heap.size ≤ v11.heap.size := hb.size
        clear kPB4
        have kPB4 : v11.cell? ⟨v1.heap.size, 4, none⟩ = some (.slice ap c.pr.length cpp) := (BoxAt.cell PB.out 4).trans (by show some q.pr.val = _; rw [HPv.out])
        clear kQB4
        have kQB4 : v11.cell? ⟨v5.heap.size, 4, none⟩ = some (.slice a1 c.pr.length cp1) := (BoxAt.cell QB.out 4).trans (by show some qa.pr.val = _; rw [HV1.out])
        clear hb
        go_wp2
        go_ret
        exact ⟨rfl, HB.out⟩

end Go.Proofs.Ytfdalcfbhebloaa
