/-
  BufferOrder: the walk.
-/
import Derived.Test.YtehpmjaldghdiaaBfAwake
import Derived.Test.YtehpmjaldghdiaaBfMath
import Derived.Test.YtehpmjaldghdiaaOp14Open
import Derived.BigQuiet
namespace Go.Proofs.Ytehpmjaldghdiaa
open Go.RowKit
set_option linter.unusedVariables false


theorem take_snocK (l : List Wk) (i : Nat) (hi : i < l.length) : (l.take (i + 1)).map Wk.v = (l.take i).map Wk.v ++ [(l.getD i Wk.zero).v] := by
  have h : l.getD i Wk.zero = l[i] := by simp [List.getD, List.getElem?_eq_getElem hi]
  rw [List.take_succ_eq_append_getElem hi, List.map_append, h]
  rfl


set_option maxRecDepth 100000 in
set_option maxHeartbeats 6400000 in
theorem walk_BufferOrder (w : World) (D : Int) (hx : (Lit.int .i64 D).wf = true) (v : Value) (l : List Opr) (hv : SeesOp w v l) (hf : ∀ r ∈ l, r.fit) :
    Calls Try.prog 4 #[.int .i64 D, v] w fun e w' => e = .returned (.bool true) ∧ Below w.heap.size w w' := by
  clear hf hx
  obtain ⟨al, cl, rfl, hl1, hl2, hlc⟩ := hv.form
  unfold maxLen at hl2
  obtain ⟨N, hN⟩ : ∃ n, l.length = n := ⟨_, rfl⟩
  rw [hN] at hl1 hlc ⊢
  have HLC := hid hlc
  clear hv hlc hN
  have HB := hid (Below.refl w.heap.size w)
  go_enter Try.func4, Try.ntmps4
  go_wp2_with fail
  refine (bfawake_any _).mono ?_
  rintro e v1 ⟨rfl, hb⟩
  have HB := hid (HB.out.trans (hb.mono HB.out.size))
  have hsv1 : w.heap.size ≤ v1.heap.size := by first | exact hb.size | omega
  clear hb
  by_cases hgd0 : (60 : Int) < (N : Int)
  · go_wp2
    go_ret
    exact ⟨rfl, HB.out⟩
  by_cases hgd1 : D < 1
  · go_wp2
    go_ret
    exact ⟨rfl, HB.out⟩
  by_cases hgd2 : 8 < D
  · go_wp2
    go_ret
    exact ⟨rfl, HB.out⟩
  have FL1 := hid trivial
  have FL2 := hid trivial
  go_wp2_with (first
    | (have hfl := FL1.out
       refine wpList_new rfl 25 rfl _ Try.zeroBf ?_
       intro v2 b h z
       have BB := hid (show BoxAt v2 v1.heap.size 25 #[.int .i64 0, .bool false, .slice none 0 0, .slice none 0 0] from b)
       have HB := hid (HB.out.trans (h.mono HB.out.size))
       have hsv2 : v1.heap.size + 1 ≤ v2.heap.size := by first | exact h.size | omega
       clear b h z hfl FL1)
    | (have hfl := FL2.out
       refine wpList_store_whole rfl 25 _ _ rfl rfl (v1.heap.size) rfl [.int .i64 D, .bool false, .slice none 0 0, .slice none 0 0] rfl _ _ BB.out rfl Try.infoBf (by simp [Value.oneCell']) ?_
       intro v3 b g z
       have hsv3 : v2.heap.size ≤ v3.heap.size := by omega
       have BB := hid (show BoxAt v3 (v1.heap.size) 25 #[.int .i64 D, .bool false, .slice none 0 0, .slice none 0 0] from b)
       have HB := hid (HB.out.trans (grown_below g (by omega) (by omega)))
       clear b g z hfl FL2
       refine Hid.out ?_)
    | fail)
  refine hid ?_
  go_wp2_with fail
  go_loopw [7, 8, 9] (fun vi vo t wc => ∃ (i : Nat) (xs : List Int) (T : List Wt) (LI LO : List Int) (x u si so : Sl), i ≤ N ∧ vi = .slice si.a si.n si.c ∧ vo = .slice so.a so.n so.c ∧ t = .int .i64 i ∧ Flow D xs T LI LO i ∧ BoxAt wc (v1.heap.size) 25 #[.int .i64 D, .bool false, .slice x.a x.n x.c, .slice u.a u.n u.c] ∧ OI wc w.heap.size x.val xs ∧ OWt wc w.heap.size u.val T ∧ OI wc w.heap.size si.val LI ∧ OI wc w.heap.size so.val LO ∧ Apart si.val so.val ∧ Below w.heap.size w wc) (fun _ _ t _ => N - (intOf t).toNat)
  case atStart => exact ⟨0, [], [], [], [], ⟨none, 0, 0⟩, ⟨none, 0, 0⟩, ⟨none, 0, 0⟩, ⟨none, 0, 0⟩, by omega, rfl, rfl, rfl, Flow.start D (by omega), BB.out, OI.nil _ _, OWt.nil _ _, OI.nil _ _, OI.nil _ _, Apart.nil _, HB.out⟩
  case round =>
    clear BB HB
    obtain ⟨i, xs, T, LI, LO, x, u, si, so, hi, rfl, rfl, rfl, hfl, hbb, hoi, hou, hin, hot, hap, hbel⟩ := hrel
    have BB := hid hbb
    have HC := hid hoi
    have HU := hid hou
    have HI := hid hin
    have HO := hid hot
    have AIO := hid hap
    have HFL := hid hfl
    have HB := hid hbel
    have hsr : v1.heap.size + 1 ≤ wr.heap.size := hbb.lt
    have hsw : w.heap.size ≤ wr.heap.size := hbel.size
    clear hbb hoi hou hin hot hap hfl hbel
    by_cases hlt : i < N
    · have hi60 : i ≤ 60 := by omega
      have HI60 := hid hi60
      have HLO := hid (HFL.out.lo)
      have HLT := hid (HFL.out.lt)
      have HLI := hid (HFL.out.li)
      obtain ⟨bb, off, rfl, hbw, hcell⟩ := HLC.out (by omega)
      have c0 := hid (hcell i hlt 0 (by decide))
      have c1 := hid (hcell i hlt 1 (by decide))
      have c2 := hid (hcell i hlt 2 (by decide))
      have c3 := hid (hcell i hlt 3 (by decide))
      have c4 := hid (hcell i hlt 4 (by decide))
      obtain ⟨y, hy⟩ : ∃ y, l.getD i Opr.zero = y := ⟨_, rfl⟩
      rw [hy] at c0 c1 c2 c3 c4
      clear hy hcell HLC
      obtain ⟨tk, my, y0, y1, y2⟩ := y
      simp only [Opr.cells, List.getD_cons_zero, List.getD_cons_succ, Nat.add_zero] at c0 c1 c2 c3 c4
      have d0 := (HB.out.cell (by exact hbw)).trans c0.out
      rcases tk with _ | _
      · go_wp2_with fail
        have BB := hid (BoxAt.drew BB.out)
        have HC := hid (HC.out.below ((Below.refl wr.heap.size wr).drew))
        have HU := hid (HU.out.below ((Below.refl wr.heap.size wr).drew))
        have HI := hid (HI.out.below ((Below.refl wr.heap.size wr).drew))
        have HO := hid (HO.out.below ((Below.refl wr.heap.size wr).drew))
        have HB := hid HB.out.drew
        have hsv4 : wr.heap.size ≤ wr.drew.heap.size := Nat.le_refl _
        refine wp_region_held_drew (S := (fun w' : World => BoxAt w' (v1.heap.size) 25 #[.int .i64 D, .bool false, .slice x.a x.n x.c, .slice u.a u.n u.c] ∧ w'.cell? ⟨bb, off + i * 5 + 1, none⟩ = some (.bool my) ∧ w'.cell? ⟨bb, off + i * 5 + 2, none⟩ = some (.int .i64 y0) ∧ w'.cell? ⟨bb, off + i * 5 + 3, none⟩ = some (.int .i64 y1) ∧ w'.cell? ⟨bb, off + i * 5 + 4, none⟩ = some (.int .i64 y2))) (by kernel_rfl) (⟨BB.out, (HB.out.cell (by exact hbw)).trans c1.out, (HB.out.cell (by exact hbw)).trans c2.out, (HB.out.cell (by exact hbw)).trans c3.out, (HB.out.cell (by exact hbw)).trans c4.out⟩) (fun hHeld => ?_)
        generalize wr.drew = v4 at *
        refine wpAnyH_take (i := 0) (oi := { dst := some 74, op := Op.load 25 (Operand.tmp 6), type := 25, pos := "law.go:61", after := _, guard := none }) (v := ?_) rfl (by kernel_rfl) (by kernel_rfl) (by kernel_rfl) (fun _ _ _ h => h) (Or.inl ⟨by rfl, ?_⟩) (by assumption) ?_
        rotate_left
        · (intro W hSw; (try dsimp only at hSw); obtain ⟨hs0S, hs1S, hs2S, hs3S, hs4S⟩ := hSw; have c0_0 : W.cell? ⟨v1.heap.size, 0, none⟩ = some (.int .i64 D) := (BoxAt.cell hs0S 0).trans rfl; have c0_1 : W.cell? ⟨v1.heap.size, 1, none⟩ = some (.bool false) := (BoxAt.cell hs0S 1).trans rfl; have c0_2 : W.cell? ⟨v1.heap.size, 2, none⟩ = some (.slice x.a x.n x.c) := (BoxAt.cell hs0S 2).trans rfl; have c0_3 : W.cell? ⟨v1.heap.size, 3, none⟩ = some (.slice u.a u.n u.c) := (BoxAt.cell hs0S 3).trans rfl; clear hs0S; go_simp; try with_reducible rfl)
        simp only [Act.put, List.setIfInBounds_toArray, List.set_cons_zero, List.set_cons_succ]
        refine wpAnyH_take (i := 1) (oi := { dst := some 75, op := Op.move (Operand.tmp 1), type := 37, pos := "law.go:61", after := _, guard := none }) (v := ?_) rfl (by kernel_rfl) (by kernel_rfl) (by kernel_rfl) (fun _ _ _ h => h) (Or.inl ⟨by rfl, ?_⟩) (by assumption) ?_
        rotate_left
        · (intro w hSw; (try dsimp only at hSw); go_simp; try with_reducible rfl)
        simp only [Act.put, List.setIfInBounds_toArray, List.set_cons_zero, List.set_cons_succ]
        refine wpAnyH_take (i := 2) (oi := { dst := some 76, op := Op.move (Operand.tmp 9), type := 3, pos := "law.go:61", after := _, guard := none }) (v := ?_) rfl (by kernel_rfl) (by kernel_rfl) (by kernel_rfl) (fun _ _ _ h => h) (Or.inl ⟨by rfl, ?_⟩) (by assumption) ?_
        rotate_left
        · (intro w hSw; (try dsimp only at hSw); go_simp; try with_reducible rfl)
        simp only [Act.put, List.setIfInBounds_toArray, List.set_cons_zero, List.set_cons_succ]
        refine wpAnyH_take (i := 3) (oi := { dst := some 77, op := Op.indexAddr 37 (Operand.tmp 75) (Operand.tmp 76), type := 0, pos := "law.go:61", after := _, guard := none }) (v := ?_) rfl (by kernel_rfl) (by kernel_rfl) (by kernel_rfl) (fun _ _ _ h => h) (Or.inl ⟨by rfl, ?_⟩) (by assumption) ?_
        rotate_left
        · (intro w hSw; (try dsimp only at hSw); go_simp; try with_reducible rfl)
        simp only [Act.put, List.setIfInBounds_toArray, List.set_cons_zero, List.set_cons_succ]
        refine wpAnyH_take (i := 4) (oi := { dst := some 78, op := Op.fieldAddr 39 (Operand.tmp 77) 2, type := 0, pos := "law.go:61", after := _, guard := none }) (v := ?_) rfl (by kernel_rfl) (by kernel_rfl) (by kernel_rfl) (fun _ _ _ h => h) (Or.inl ⟨by rfl, ?_⟩) (by assumption) ?_
        rotate_left
        · (intro w hSw; (try dsimp only at hSw); go_simp; try with_reducible rfl)
        simp only [Act.put, List.setIfInBounds_toArray, List.set_cons_zero, List.set_cons_succ]
        refine wpAnyH_take (i := 5) (oi := { dst := some 79, op := Op.load 27 (Operand.tmp 78), type := 27, pos := "law.go:61", after := _, guard := none }) (v := ?_) rfl (by kernel_rfl) (by kernel_rfl) (by kernel_rfl) (fun _ _ _ h => h) (Or.inl ⟨by rfl, ?_⟩) (by assumption) ?_
        rotate_left
        · (intro W hSw; (try dsimp only at hSw); obtain ⟨hs0S, hs1S, hs2S, hs3S, hs4S⟩ := hSw; have c0_0 : W.cell? ⟨v1.heap.size, 0, none⟩ = some (.int .i64 D) := (BoxAt.cell hs0S 0).trans rfl; have c0_1 : W.cell? ⟨v1.heap.size, 1, none⟩ = some (.bool false) := (BoxAt.cell hs0S 1).trans rfl; have c0_2 : W.cell? ⟨v1.heap.size, 2, none⟩ = some (.slice x.a x.n x.c) := (BoxAt.cell hs0S 2).trans rfl; have c0_3 : W.cell? ⟨v1.heap.size, 3, none⟩ = some (.slice u.a u.n u.c) := (BoxAt.cell hs0S 3).trans rfl; clear hs0S; go_simp; try with_reducible rfl)
        simp only [Act.put, List.setIfInBounds_toArray, List.set_cons_zero, List.set_cons_succ]
        refine wpAnyH_take (i := 6) (oi := { dst := some 80, op := Op.move (Operand.tmp 1), type := 37, pos := "law.go:61", after := _, guard := none }) (v := ?_) rfl (by kernel_rfl) (by kernel_rfl) (by kernel_rfl) (fun _ _ _ h => h) (Or.inl ⟨by rfl, ?_⟩) (by assumption) ?_
        rotate_left
        · (intro w hSw; (try dsimp only at hSw); go_simp; try with_reducible rfl)
        simp only [Act.put, List.setIfInBounds_toArray, List.set_cons_zero, List.set_cons_succ]
        refine wpAnyH_take (i := 7) (oi := { dst := some 81, op := Op.move (Operand.tmp 9), type := 3, pos := "law.go:61", after := _, guard := none }) (v := ?_) rfl (by kernel_rfl) (by kernel_rfl) (by kernel_rfl) (fun _ _ _ h => h) (Or.inl ⟨by rfl, ?_⟩) (by assumption) ?_
        rotate_left
        · (intro w hSw; (try dsimp only at hSw); go_simp; try with_reducible rfl)
        simp only [Act.put, List.setIfInBounds_toArray, List.set_cons_zero, List.set_cons_succ]
        refine wpAnyH_take (i := 8) (oi := { dst := some 82, op := Op.indexAddr 37 (Operand.tmp 80) (Operand.tmp 81), type := 0, pos := "law.go:61", after := _, guard := none }) (v := ?_) rfl (by kernel_rfl) (by kernel_rfl) (by kernel_rfl) (fun _ _ _ h => h) (Or.inl ⟨by rfl, ?_⟩) (by assumption) ?_
        rotate_left
        · (intro w hSw; (try dsimp only at hSw); go_simp; try with_reducible rfl)
        simp only [Act.put, List.setIfInBounds_toArray, List.set_cons_zero, List.set_cons_succ]
        refine wpAnyH_take (i := 9) (oi := { dst := some 83, op := Op.fieldAddr 39 (Operand.tmp 82) 1, type := 0, pos := "law.go:61", after := _, guard := none }) (v := ?_) rfl (by kernel_rfl) (by kernel_rfl) (by kernel_rfl) (fun _ _ _ h => h) (Or.inl ⟨by rfl, ?_⟩) (by assumption) ?_
        rotate_left
        · (intro w hSw; (try dsimp only at hSw); go_simp; try with_reducible rfl)
        simp only [Act.put, List.setIfInBounds_toArray, List.set_cons_zero, List.set_cons_succ]
        refine wpAnyH_take (i := 10) (oi := { dst := some 84, op := Op.load 4 (Operand.tmp 83), type := 4, pos := "law.go:61", after := _, guard := none }) (v := ?_) rfl (by kernel_rfl) (by kernel_rfl) (by kernel_rfl) (fun _ _ _ h => h) (Or.inl ⟨by rfl, ?_⟩) (by assumption) ?_
        rotate_left
        · (intro W hSw; (try dsimp only at hSw); obtain ⟨hs0S, hs1S, hs2S, hs3S, hs4S⟩ := hSw; have c0_0 : W.cell? ⟨v1.heap.size, 0, none⟩ = some (.int .i64 D) := (BoxAt.cell hs0S 0).trans rfl; have c0_1 : W.cell? ⟨v1.heap.size, 1, none⟩ = some (.bool false) := (BoxAt.cell hs0S 1).trans rfl; have c0_2 : W.cell? ⟨v1.heap.size, 2, none⟩ = some (.slice x.a x.n x.c) := (BoxAt.cell hs0S 2).trans rfl; have c0_3 : W.cell? ⟨v1.heap.size, 3, none⟩ = some (.slice u.a u.n u.c) := (BoxAt.cell hs0S 3).trans rfl; clear hs0S; go_simp; try with_reducible rfl)
        simp only [Act.put, List.setIfInBounds_toArray, List.set_cons_zero, List.set_cons_succ]
        refine wpAnyH_ready (rs := [11, 16]) (by kernel_rfl) (by simp) (AllReadyH.cons (o := { dst := some 85, op := Op.call { callee := Callee.value (Operand.func 9), args := #[Operand.tmp 74, Operand.tmp 79, Operand.tmp 84], argTypes := #[25, 27, 4] }, type := 30, pos := "law.go:61", after := _, guard := none }) rfl (fun K1012 hK1012 => ?b1012_11) (AllReadyH.cons (o := { dst := some 14, op := Op.alloc 25, type := 0, pos := "law.go:61", after := _, guard := none }) rfl (fun K1012 hK1012 => ?b1012_16) AllReadyH.nil))
        case' b1012_11 =>
          have HBt := HB.out.size
          have HIL := hid (HI.out.lt)
          have HOL := hid (HO.out.lt)
          have HFN := hid (fun h => HFL.out.sendNo ⟨y0, y1, y2⟩ my (by omega) h)
          have HFY := hid (fun h => HFL.out.sendYes ⟨y0, y1, y2⟩ my (by omega) h)
          have HWL := hid (sendW_len xs T y2)
          go_simp
          refine (send_any D false y0 y1 y2 my (vs := x) (s := u) (xs := xs) (l := T) HC.out.sees HU.out.sees (by have := HLO.out.2.1; have := HI60.out; omega) (by have := HLT.out; have := HI60.out; omega)).mono ?_
          rintro e v5 ⟨x3, u3, q3, rfl, hc, hu, hq, hb⟩
          have BB := hid (BB.out.belowAll hb)
          have HC := hid (HC.out.below hb)
          have HU := hid (HU.out.below hb)
          have HI := hid (HI.out.below hb)
          have HO := hid (HO.out.below hb)
          have HB := hid (HB.out.trans (hb.mono HB.out.size))
          have hsv5 : v4.heap.size ≤ v5.heap.size := by first | exact hb.size | omega
          obtain ⟨C, hC⟩ : ∃ c, sendC D xs T my = c := ⟨_, rfl⟩
          obtain ⟨V1, hV1⟩ : ∃ c, sendV D xs T y2 = c := ⟨_, rfl⟩
          obtain ⟨L1, hL1⟩ : ∃ c, sendL D false xs T ⟨y0, y1, y2⟩ my = c := ⟨_, rfl⟩
          obtain ⟨WW, hWW⟩ : ∃ c, sendW xs T y2 = c := ⟨_, rfl⟩
          simp only [hC, hV1, hL1, hWW] at HFN HFY HWL
          rw [hC]
          rw [hV1] at hc
          rw [hL1] at hu
          rw [hWW] at hq
          have AXI := hid (show Apart x3.val si.val from fun b h1 h2 => by have := (HIL.out b h2).2; have := (hc.lt b h1).1; omega)
          have AXO := hid (show Apart x3.val so.val from fun b h1 h2 => by have := (HOL.out b h2).2; have := (hc.lt b h1).1; omega)
          have HC1 := hid (hc.mono HBt)
          have HU1 := hid (hu.mono HBt)
          have HQ1 := hid (hq.mono HBt)
          clear hc hu hq HBt HC HU HIL HOL hC hV1 hL1 hWW
          clear hb
          refine hK1012.out _ _ (⟨BB.out, (HB.out.cell (by exact hbw)).trans c1.out, (HB.out.cell (by exact hbw)).trans c2.out, (HB.out.cell (by exact hbw)).trans c3.out, (HB.out.cell (by exact hbw)).trans c4.out⟩) (fun hHeld1012 => ?_)
          clear hK1012 K1012
          try simp only [Act.put, List.setIfInBounds_toArray, List.set_cons_zero, List.set_cons_succ]
          refine wpAnyH_take (i := 12) (oi := { dst := some 73, op := Op.move (Operand.tmp 85), type := 30, pos := "law.go:61", after := _, guard := none }) (v := ?_) rfl (by kernel_rfl) (by kernel_rfl) (by kernel_rfl) (fun _ _ _ h => h) (Or.inl ⟨by rfl, ?_⟩) (by assumption) ?_
          rotate_left
          · (intro w hSw; (try dsimp only at hSw); go_simp; try with_reducible rfl)
          simp only [Act.put, List.setIfInBounds_toArray, List.set_cons_zero, List.set_cons_succ]
          refine wpAnyH_take (i := 13) (oi := { dst := some 86, op := Op.extract (Operand.tmp 73) 0, type := 25, pos := "law.go:61", after := _, guard := none }) (v := ?_) rfl (by kernel_rfl) (by kernel_rfl) (by kernel_rfl) (fun _ _ _ h => h) (Or.inl ⟨by rfl, ?_⟩) (by assumption) ?_
          rotate_left
          · (intro w hSw; (try dsimp only at hSw); go_simp; try with_reducible rfl)
          simp only [Act.put, List.setIfInBounds_toArray, List.set_cons_zero, List.set_cons_succ]
          refine wpAnyH_take (i := 14) (oi := { dst := some 87, op := Op.extract (Operand.tmp 73) 1, type := 3, pos := "law.go:61", after := _, guard := none }) (v := ?_) rfl (by kernel_rfl) (by kernel_rfl) (by kernel_rfl) (fun _ _ _ h => h) (Or.inl ⟨by rfl, ?_⟩) (by assumption) ?_
          rotate_left
          · (intro w hSw; (try dsimp only at hSw); go_simp; try with_reducible rfl)
          simp only [Act.put, List.setIfInBounds_toArray, List.set_cons_zero, List.set_cons_succ]
          refine wpAnyH_take (i := 15) (oi := { dst := some 88, op := Op.extract (Operand.tmp 73) 2, type := 29, pos := "law.go:61", after := _, guard := none }) (v := ?_) rfl (by kernel_rfl) (by kernel_rfl) (by kernel_rfl) (fun _ _ _ h => h) (Or.inl ⟨by rfl, ?_⟩) (by assumption) ?_
          rotate_left
          · (intro w hSw; (try dsimp only at hSw); go_simp; try with_reducible rfl)
          simp only [Act.put, List.setIfInBounds_toArray, List.set_cons_zero, List.set_cons_succ]
          refine wpAnyH_ready (rs := [16]) (by kernel_rfl) (by simp) (AllReadyH.cons (o := { dst := some 14, op := Op.alloc 25, type := 0, pos := "law.go:61", after := _, guard := none }) rfl (fun K1017 hK1017 => ?_) AllReadyH.nil)
          refine step_new rfl 25 rfl _ Try.zeroBf ?_
          intro v6 b h z
          have CB := hid (show BoxAt v6 v5.heap.size 25 #[.int .i64 0, .bool false, .slice none 0 0, .slice none 0 0] from b)
          have BB := hid (BB.out.belowAll h)
          have HI := hid (HI.out.below h)
          have HO := hid (HO.out.below h)
          have HC1 := hid (HC1.out.below h)
          have HU1 := hid (HU1.out.below h)
          have HQ1 := hid (HQ1.out.below h)
          have HB := hid (HB.out.trans (h.mono HB.out.size))
          have hsv6 : v5.heap.size + 1 ≤ v6.heap.size := by first | exact h.size | omega
          clear b h z
          refine hK1017.out _ _ (⟨BB.out, (HB.out.cell (by exact hbw)).trans c1.out, (HB.out.cell (by exact hbw)).trans c2.out, (HB.out.cell (by exact hbw)).trans c3.out, (HB.out.cell (by exact hbw)).trans c4.out⟩) (fun hHeld1017 => ?_)
          clear hK1017 K1017
          try simp only [Act.put, List.setIfInBounds_toArray, List.set_cons_zero, List.set_cons_succ]
          refine wpAnyH_ready (rs := [17]) (by kernel_rfl) (by simp) (AllReadyH.cons (o := { dst := none, op := Op.store 25 (Operand.tmp 14) (Operand.tmp 86), type := 0, pos := "law.go:61", after := _, guard := none }) rfl (fun K1018 hK1018 => ?_) AllReadyH.nil)
          refine step_store_whole rfl 25 _ _ rfl (v5.heap.size) rfl [.int .i64 D, .bool false, .slice x3.a x3.n x3.c, .slice u3.a u3.n u3.c] rfl _ _ CB.out rfl Try.infoBf (by simp [Value.oneCell']) ?_
          intro v7 b g z
          have hsv7 : v6.heap.size ≤ v7.heap.size := by omega
          have HI := hid (HI.out.put g CB.out (by decide))
          have HO := hid (HO.out.put g CB.out (by decide))
          have HC1 := hid (HC1.out.put g CB.out (by decide))
          have HU1 := hid (HU1.out.put g CB.out (by decide))
          have HQ1 := hid (HQ1.out.put g CB.out (by decide))
          have CB := hid (show BoxAt v7 (v5.heap.size) 25 #[.int .i64 D, .bool false, .slice x3.a x3.n x3.c, .slice u3.a u3.n u3.c] from b)
          have BB := hid (BB.out.grown g (fun e => by have := Option.some.inj e; omega))
          have HB := hid (HB.out.trans (grown_below g (by omega) (by omega)))
          clear b g z
          refine hK1018.out _ _ (⟨BB.out, (HB.out.cell (by exact hbw)).trans c1.out, (HB.out.cell (by exact hbw)).trans c2.out, (HB.out.cell (by exact hbw)).trans c3.out, (HB.out.cell (by exact hbw)).trans c4.out⟩) (fun hHeld1018 => ?_)
          clear hK1018 K1018
          try simp only [Act.put]
          refine wpAnyH_take (i := 18) (oi := { dst := some 15, op := Op.assign (Operand.tmp 87), type := 3, pos := "law.go:61", after := _, guard := none }) (v := ?_) rfl (by kernel_rfl) (by kernel_rfl) (by kernel_rfl) (fun _ _ _ h => h) (Or.inl ⟨by rfl, ?_⟩) (by assumption) ?_
          rotate_left
          · (intro w hSw; (try dsimp only at hSw); go_simp; try with_reducible rfl)
          simp only [Act.put, List.setIfInBounds_toArray, List.set_cons_zero, List.set_cons_succ]
          refine wpAnyH_take (i := 19) (oi := { dst := some 16, op := Op.assign (Operand.tmp 88), type := 29, pos := "law.go:61", after := _, guard := none }) (v := ?_) rfl (by kernel_rfl) (by kernel_rfl) (by kernel_rfl) (fun _ _ _ h => h) (Or.inl ⟨by rfl, ?_⟩) (by assumption) ?_
          rotate_left
          · (intro w hSw; (try dsimp only at hSw); go_simp; try with_reducible rfl)
          simp only [Act.put, List.setIfInBounds_toArray, List.set_cons_zero, List.set_cons_succ]
          refine wpAnyH_done (by kernel_rfl) ?_ _
          clear hHeld hHeld1012 hHeld1017 hHeld1018
          by_cases hC2 : C = 2
          · have HFE := hid (HFN.out hC2)
            have hCb : (C != 2) = false := by rw [hC2]; rfl
            clear hC2 HFN HFY AXI
            obtain ⟨qa, qn, qc⟩ := q3
            obtain ⟨ya, yc, hyv, -, -, -⟩ := HQ1.out.sees.form
            simp only [Sl.val, Value.slice.injEq] at hyv
            obtain ⟨rfl, hqn, rfl⟩ := hyv
            have HQN := hid hqn
            simp only [Sl.val]
            have hqn1 : qn ≤ 1 := by rw [hqn]; exact HWL.out
            clear hqn
            go_wp2_with fail
            go_loopw [8, 17] (fun vo t wc => ∃ (j : Nat) (so2 : Sl), j ≤ qn ∧ vo = .slice so2.a so2.n so2.c ∧ t = .int .i64 j ∧ BoxAt wc (v1.heap.size) 25 #[.int .i64 D, .bool false, .slice x.a x.n x.c, .slice u.a u.n u.c] ∧ BoxAt wc (v5.heap.size) 25 #[.int .i64 D, .bool false, .slice x3.a x3.n x3.c, .slice u3.a u3.n u3.c] ∧ OI wc w.heap.size x3.val V1 ∧ OWt wc w.heap.size u3.val L1 ∧ OI wc w.heap.size si.val LI ∧ OI wc w.heap.size so2.val (LO ++ (WW.take j).map Wk.v) ∧ OWk wc w.heap.size (.slice qa qn qc) WW ∧ Apart x3.val so2.val ∧ Apart si.val so2.val ∧ Below w.heap.size w wc ∧ v7.heap.size ≤ wc.heap.size) (fun _ t _ => qn - (intOf t).toNat)
            case atStart => exact ⟨0, so, by omega, rfl, rfl, BB.out, CB.out, HC1.out, HU1.out, HI.out, by simpa using HO.out, HQ1.out, AXO.out, AIO.out, HB.out, Nat.le_refl _⟩
            case round =>
              clear BB CB HC1 HU1 HI HO HQ1 AXO AIO HB
              obtain ⟨j, so2, hj, rfl, rfl, hbb, hcb, hc1, hu1, hii, hoo, hqq, hax, hai, hbel, hsz⟩ := hrel
              have BB := hid hbb
              have CB := hid hcb
              have HC1 := hid hc1
              have HU1 := hid hu1
              have HI := hid hii
              have HO := hid hoo
              have HQ1 := hid hqq
              have AXO := hid hax
              have AIO := hid hai
              have HB := hid hbel
              have hsw2 : w.heap.size ≤ wr.heap.size := hbel.size
              clear hbb hcb hc1 hu1 hii hoo hqq hax hai hbel
              by_cases hjt : j < qn
              · have hWj := take_snocK WW j (by rw [← HQN.out]; exact hjt)
                obtain ⟨ya2, yc2, hyv2, -, hy2, hyc⟩ := HQ1.out.sees.form
                simp only [Value.slice.injEq] at hyv2
                obtain ⟨rfl, -, rfl⟩ := hyv2
                obtain ⟨xb, xo, rfl, hxb, hxc⟩ := hyc (by rw [← HQN.out]; omega)
                have e2 := hxc j (by rw [← HQN.out]; exact hjt) 2 (by decide)
                obtain ⟨z, hz⟩ : ∃ z, WW.getD j Wk.zero = z := ⟨_, rfl⟩
                rw [hz] at e2 hWj
                have HWJ := hid hWj
                clear hxc hyc hz hWj
                obtain ⟨z0, z1, z2⟩ := z
                simp only [Wk.cells, List.getD_cons_zero, List.getD_cons_succ] at e2
                unfold maxLen at hy2
                have FL3 := hid trivial
                have FL4 := hid trivial
                go_wp2_with (first
                  | (have hfl := FL3.out
                     refine wpList_litI rfl (.tmp 111) rfl (z2) rfl ?_
                     intro v8 b h
                     have LB := hid (show BoxAt v8 wr.heap.size 3 #[.int .i64 (z2)] from b)
                     have BB := hid (BB.out.belowAll h)
                     have CB := hid (CB.out.belowAll h)
                     have HI := hid (HI.out.below h)
                     have HO := hid (HO.out.below h)
                     have HC1 := hid (HC1.out.below h)
                     have HU1 := hid (HU1.out.below h)
                     have HQ1 := hid (HQ1.out.below h)
                     have HB := hid (HB.out.trans (h.mono HB.out.size))
                     have hsv8 : wr.heap.size ≤ v8.heap.size := by first | exact h.size | omega
                     clear b h hfl FL3)
                  | (have hfl := FL4.out
                     at_builtin
                     refine app_at rfl (.tmp 106) (.tmp 112) rfl (w.heap.size) _ (LO ++ (WW.take j).map Wk.v) rfl HO.out _ [z2] rfl (Sees.box (ys := [z2]) LB.out (by simp)) (by have := HLO.out; have := HLI.out; have := HI60.out; have := HWL.out; simp; omega) (by omega) ?_
                     intro uu v9 ho g h hloc
                     obtain ⟨so3, rfl, -⟩ := ho.sl
                     have hsv9 : v8.heap.size ≤ v9.heap.size := g.size
                     have AXOn := hid (AXO.out.grown HC1.out hloc)
                     have AIOn := hid (AIO.out.grown HI.out hloc)
                     have HC1 := hid (HC1.out.kept AXO.out g)
                     have HI := hid (HI.out.kept AIO.out g)
                     have AXO := AXOn
                     have AIO := AIOn
                     have BB := hid (BB.out.grown g (OI.apart HO.out BB.out (by decide)))
                     have CB := hid (CB.out.grown g (OI.apart HO.out CB.out (by decide)))
                     have HU1 := hid (HU1.out.over HO.out g)
                     have HQ1 := hid (HQ1.out.over HO.out g)
                     have HB := hid (HB.out.trans h)
                     have HO := hid ho
                     clear ho g h hloc AXOn AIOn LB
                     clear hfl FL4)
                  | fail)
                go_roundw
                case rel => exact ⟨j + 1, so3, by omega, by rfl, by go_num, BB.out, CB.out, HC1.out, HU1.out, HI.out, by have := HO.out; rw [HWJ.out, ← List.append_assoc]; exact this, HQ1.out, AXO.out, AIO.out, HB.out, by omega⟩
                case measure => simp [intOf]; omega
              · have hjq : j = WW.length := by rw [← HQN.out]; omega
                have HO := hid (show OI wr w.heap.size so2.val (LO ++ WW.map Wk.v) from by have := HO.out; rwa [hjq, List.take_length] at this)
                clear hjq
                obtain ⟨xa3, xn3, xc3⟩ := x3
                obtain ⟨ua3, un3, uc3⟩ := u3
                have hxn : xn3 = V1.length := HC1.out.n
                have hun : un3 = L1.length := HU1.out.n
                have hA : ¬ D < (xn3 : Int) := by have := HFE.out.le; rw [← hxn] at this; omega
                have HF2 := hid (show 0 < xn3 → 0 < un3 → ¬ (xn3 : Int) < D by rw [hxn, hun]; exact HFE.out.full)
                have hxn9 : xn3 ≤ 900000 := by have := HFE.out.lo; have := HI60.out; omega
                clear hxn hun
                have FL3 := hid trivial
                go_wp2_with (first
                  | (refine wpList_load_box rfl 25 _ rfl (v5.heap.size) rfl _ _ CB.out _ Try.underlying25 Try.infoBf ?_)
                  | (have hfl := FL3.out
                     refine wpList_store_whole rfl 25 _ _ rfl rfl (v1.heap.size) rfl [.int .i64 D, .bool false, .slice xa3 xn3 xc3, .slice ua3 un3 uc3] rfl _ _ BB.out rfl Try.infoBf (by simp [Value.oneCell']) ?_
                     intro v8 b g z
                     have hsv8 : wr.heap.size ≤ v8.heap.size := by omega
                     have HI := hid (HI.out.put g BB.out (by decide))
                     have HO := hid (HO.out.put g BB.out (by decide))
                     have HC1 := hid (HC1.out.put g BB.out (by decide))
                     have HU1 := hid (HU1.out.put g BB.out (by decide))
                     have HQ1 := hid (HQ1.out.put g BB.out (by decide))
                     have BB := hid (show BoxAt v8 (v1.heap.size) 25 #[.int .i64 D, .bool false, .slice xa3 xn3 xc3, .slice ua3 un3 uc3] from b)
                     have CB := hid (CB.out.grown g (fun e => by have := Option.some.inj e; omega))
                     have HB := hid (HB.out.trans (grown_below g (by omega) (by omega)))
                     clear b g z hfl FL3
                     refine Hid.out ?_)
                  | fail)
                refine hid ?_
                have kBB2 : v8.cell? ⟨v1.heap.size, 2, none⟩ = some (.slice xa3 xn3 xc3) := (BoxAt.cell BB.out 2).trans rfl
                have kBB3 : v8.cell? ⟨v1.heap.size, 3, none⟩ = some (.slice ua3 un3 uc3) := (BoxAt.cell BB.out 3).trans rfl
                by_cases hu0 : (0 : Int) < (un3 : Int)
                · by_cases hx0 : (0 : Int) < (xn3 : Int)
                  · have hxD : ¬ (xn3 : Int) < D := by have := HF2.out (by omega) (by omega); omega
                    go_wp2_with fail
                    go_roundw
                    case rel => exact ⟨i + 1, V1, L1, LI, LO ++ WW.map Wk.v, ⟨xa3, xn3, xc3⟩, ⟨ua3, un3, uc3⟩, si, so2, by omega, by rfl, by rfl, by go_num, HFE.out, BB.out, HC1.out, HU1.out, HI.out, HO.out, AIO.out, HB.out⟩
                    case measure => simp [intOf]; omega
                  · go_wp2_with fail
                    go_roundw
                    case rel => exact ⟨i + 1, V1, L1, LI, LO ++ WW.map Wk.v, ⟨xa3, xn3, xc3⟩, ⟨ua3, un3, uc3⟩, si, so2, by omega, by rfl, by rfl, by go_num, HFE.out, BB.out, HC1.out, HU1.out, HI.out, HO.out, AIO.out, HB.out⟩
                    case measure => simp [intOf]; omega
                · go_wp2_with fail
                  go_roundw
                  case rel => exact ⟨i + 1, V1, L1, LI, LO ++ WW.map Wk.v, ⟨xa3, xn3, xc3⟩, ⟨ua3, un3, uc3⟩, si, so2, by omega, by rfl, by rfl, by go_num, HFE.out, BB.out, HC1.out, HU1.out, HI.out, HO.out, AIO.out, HB.out⟩
                  case measure => simp [intOf]; omega
          · have HFE := hid (HFY.out hC2)
            have hCb : (C != 2) = true := by simpa using hC2
            clear hC2 HFN HFY
            have d4 := (HB.out.cell (by exact hbw)).trans c4.out
            have FL3 := hid trivial
            have FL4 := hid trivial
            go_wp2_with (first
              | (have hfl := FL3.out
                 refine wpList_litI rfl (.tmp 97) rfl (y2) rfl ?_
                 intro v8 b h
                 have LB := hid (show BoxAt v8 v7.heap.size 3 #[.int .i64 (y2)] from b)
                 have BB := hid (BB.out.belowAll h)
                 have CB := hid (CB.out.belowAll h)
                 have HI := hid (HI.out.below h)
                 have HO := hid (HO.out.below h)
                 have HC1 := hid (HC1.out.below h)
                 have HU1 := hid (HU1.out.below h)
                 have HQ1 := hid (HQ1.out.below h)
                 have HB := hid (HB.out.trans (h.mono HB.out.size))
                 have hsv8 : v7.heap.size ≤ v8.heap.size := by first | exact h.size | omega
                 clear b h hfl FL3)
              | (have hfl := FL4.out
                 at_builtin
                 refine app_at rfl (.tmp 91) (.tmp 98) rfl (w.heap.size) _ LI rfl HI.out _ [y2] rfl (Sees.box (ys := [y2]) LB.out (by simp)) (by have := HLO.out; have := HLI.out; have := HI60.out; simp; omega) (by omega) ?_
                 intro uu v9 ho g h hloc
                 obtain ⟨si2, rfl, -⟩ := ho.sl
                 have hsv9 : v8.heap.size ≤ v9.heap.size := g.size
                 have AXIn := hid (AXI.out.grown HC1.out hloc)
                 have AIOn := hid (((AIO.out.symm).grown HO.out hloc).symm)
                 have HC1 := hid (HC1.out.kept AXI.out g)
                 have HO := hid (HO.out.kept AIO.out.symm g)
                 have AXI := AXIn
                 have AIO := AIOn
                 have BB := hid (BB.out.grown g (OI.apart HI.out BB.out (by decide)))
                 have CB := hid (CB.out.grown g (OI.apart HI.out CB.out (by decide)))
                 have HU1 := hid (HU1.out.over HI.out g)
                 have HQ1 := hid (HQ1.out.over HI.out g)
                 have HB := hid (HB.out.trans h)
                 have HI := hid ho
                 clear ho g h hloc AXIn AIOn LB
                 clear hfl FL4
                 refine Hid.out ?_)
              | fail)
            refine hid ?_
            clear d4 AXI
            obtain ⟨qa, qn, qc⟩ := q3
            obtain ⟨ya, yc, hyv, -, -, -⟩ := HQ1.out.sees.form
            simp only [Sl.val, Value.slice.injEq] at hyv
            obtain ⟨rfl, hqn, rfl⟩ := hyv
            have HQN := hid hqn
            simp only [Sl.val]
            have hqn1 : qn ≤ 1 := by rw [hqn]; exact HWL.out
            clear hqn
            go_wp2_with fail
            go_loopw [8, 17] (fun vo t wc => ∃ (j : Nat) (so2 : Sl), j ≤ qn ∧ vo = .slice so2.a so2.n so2.c ∧ t = .int .i64 j ∧ BoxAt wc (v1.heap.size) 25 #[.int .i64 D, .bool false, .slice x.a x.n x.c, .slice u.a u.n u.c] ∧ BoxAt wc (v5.heap.size) 25 #[.int .i64 D, .bool false, .slice x3.a x3.n x3.c, .slice u3.a u3.n u3.c] ∧ OI wc w.heap.size x3.val V1 ∧ OWt wc w.heap.size u3.val L1 ∧ OI wc w.heap.size si2.val (LI ++ [y2]) ∧ OI wc w.heap.size so2.val (LO ++ (WW.take j).map Wk.v) ∧ OWk wc w.heap.size (.slice qa qn qc) WW ∧ Apart x3.val so2.val ∧ Apart si2.val so2.val ∧ Below w.heap.size w wc ∧ v9.heap.size ≤ wc.heap.size) (fun _ t _ => qn - (intOf t).toNat)
            case atStart => exact ⟨0, so, by omega, rfl, rfl, BB.out, CB.out, HC1.out, HU1.out, HI.out, by simpa using HO.out, HQ1.out, AXO.out, AIO.out, HB.out, Nat.le_refl _⟩
            case round =>
              clear BB CB HC1 HU1 HI HO HQ1 AXO AIO HB
              obtain ⟨j, so2, hj, rfl, rfl, hbb, hcb, hc1, hu1, hii, hoo, hqq, hax, hai, hbel, hsz⟩ := hrel
              have BB := hid hbb
              have CB := hid hcb
              have HC1 := hid hc1
              have HU1 := hid hu1
              have HI := hid hii
              have HO := hid hoo
              have HQ1 := hid hqq
              have AXO := hid hax
              have AIO := hid hai
              have HB := hid hbel
              have hsw2 : w.heap.size ≤ wr.heap.size := hbel.size
              clear hbb hcb hc1 hu1 hii hoo hqq hax hai hbel
              by_cases hjt : j < qn
              · have hWj := take_snocK WW j (by rw [← HQN.out]; exact hjt)
                obtain ⟨ya2, yc2, hyv2, -, hy2, hyc⟩ := HQ1.out.sees.form
                simp only [Value.slice.injEq] at hyv2
                obtain ⟨rfl, -, rfl⟩ := hyv2
                obtain ⟨xb, xo, rfl, hxb, hxc⟩ := hyc (by rw [← HQN.out]; omega)
                have e2 := hxc j (by rw [← HQN.out]; exact hjt) 2 (by decide)
                obtain ⟨z, hz⟩ : ∃ z, WW.getD j Wk.zero = z := ⟨_, rfl⟩
                rw [hz] at e2 hWj
                have HWJ := hid hWj
                clear hxc hyc hz hWj
                obtain ⟨z0, z1, z2⟩ := z
                simp only [Wk.cells, List.getD_cons_zero, List.getD_cons_succ] at e2
                unfold maxLen at hy2
                have FL5 := hid trivial
                have FL6 := hid trivial
                go_wp2_with (first
                  | (have hfl := FL5.out
                     refine wpList_litI rfl (.tmp 111) rfl (z2) rfl ?_
                     intro v10 b h
                     have LB := hid (show BoxAt v10 wr.heap.size 3 #[.int .i64 (z2)] from b)
                     have BB := hid (BB.out.belowAll h)
                     have CB := hid (CB.out.belowAll h)
                     have HI := hid (HI.out.below h)
                     have HO := hid (HO.out.below h)
                     have HC1 := hid (HC1.out.below h)
                     have HU1 := hid (HU1.out.below h)
                     have HQ1 := hid (HQ1.out.below h)
                     have HB := hid (HB.out.trans (h.mono HB.out.size))
                     have hsv10 : wr.heap.size ≤ v10.heap.size := by first | exact h.size | omega
                     clear b h hfl FL5)
                  | (have hfl := FL6.out
                     at_builtin
                     refine app_at rfl (.tmp 106) (.tmp 112) rfl (w.heap.size) _ (LO ++ (WW.take j).map Wk.v) rfl HO.out _ [z2] rfl (Sees.box (ys := [z2]) LB.out (by simp)) (by have := HLO.out; have := HLI.out; have := HI60.out; have := HWL.out; simp; omega) (by omega) ?_
                     intro uu v11 ho g h hloc
                     obtain ⟨so3, rfl, -⟩ := ho.sl
                     have hsv11 : v10.heap.size ≤ v11.heap.size := g.size
                     have AXOn := hid (AXO.out.grown HC1.out hloc)
                     have AIOn := hid (AIO.out.grown HI.out hloc)
                     have HC1 := hid (HC1.out.kept AXO.out g)
                     have HI := hid (HI.out.kept AIO.out g)
                     have AXO := AXOn
                     have AIO := AIOn
                     have BB := hid (BB.out.grown g (OI.apart HO.out BB.out (by decide)))
                     have CB := hid (CB.out.grown g (OI.apart HO.out CB.out (by decide)))
                     have HU1 := hid (HU1.out.over HO.out g)
                     have HQ1 := hid (HQ1.out.over HO.out g)
                     have HB := hid (HB.out.trans h)
                     have HO := hid ho
                     clear ho g h hloc AXOn AIOn LB
                     clear hfl FL6)
                  | fail)
                go_roundw
                case rel => exact ⟨j + 1, so3, by omega, by rfl, by go_num, BB.out, CB.out, HC1.out, HU1.out, HI.out, by have := HO.out; rw [HWJ.out, ← List.append_assoc]; exact this, HQ1.out, AXO.out, AIO.out, HB.out, by omega⟩
                case measure => simp [intOf]; omega
              · have hjq : j = WW.length := by rw [← HQN.out]; omega
                have HO := hid (show OI wr w.heap.size so2.val (LO ++ WW.map Wk.v) from by have := HO.out; rwa [hjq, List.take_length] at this)
                clear hjq
                obtain ⟨xa3, xn3, xc3⟩ := x3
                obtain ⟨ua3, un3, uc3⟩ := u3
                have hxn : xn3 = V1.length := HC1.out.n
                have hun : un3 = L1.length := HU1.out.n
                have hA : ¬ D < (xn3 : Int) := by have := HFE.out.le; rw [← hxn] at this; omega
                have HF2 := hid (show 0 < xn3 → 0 < un3 → ¬ (xn3 : Int) < D by rw [hxn, hun]; exact HFE.out.full)
                have hxn9 : xn3 ≤ 900000 := by have := HFE.out.lo; have := HI60.out; omega
                clear hxn hun
                have FL5 := hid trivial
                go_wp2_with (first
                  | (refine wpList_load_box rfl 25 _ rfl (v5.heap.size) rfl _ _ CB.out _ Try.underlying25 Try.infoBf ?_)
                  | (have hfl := FL5.out
                     refine wpList_store_whole rfl 25 _ _ rfl rfl (v1.heap.size) rfl [.int .i64 D, .bool false, .slice xa3 xn3 xc3, .slice ua3 un3 uc3] rfl _ _ BB.out rfl Try.infoBf (by simp [Value.oneCell']) ?_
                     intro v10 b g z
                     have hsv10 : wr.heap.size ≤ v10.heap.size := by omega
                     have HI := hid (HI.out.put g BB.out (by decide))
                     have HO := hid (HO.out.put g BB.out (by decide))
                     have HC1 := hid (HC1.out.put g BB.out (by decide))
                     have HU1 := hid (HU1.out.put g BB.out (by decide))
                     have HQ1 := hid (HQ1.out.put g BB.out (by decide))
                     have BB := hid (show BoxAt v10 (v1.heap.size) 25 #[.int .i64 D, .bool false, .slice xa3 xn3 xc3, .slice ua3 un3 uc3] from b)
                     have CB := hid (CB.out.grown g (fun e => by have := Option.some.inj e; omega))
                     have HB := hid (HB.out.trans (grown_below g (by omega) (by omega)))
                     clear b g z hfl FL5
                     refine Hid.out ?_)
                  | fail)
                refine hid ?_
                have kBB2 : v10.cell? ⟨v1.heap.size, 2, none⟩ = some (.slice xa3 xn3 xc3) := (BoxAt.cell BB.out 2).trans rfl
                have kBB3 : v10.cell? ⟨v1.heap.size, 3, none⟩ = some (.slice ua3 un3 uc3) := (BoxAt.cell BB.out 3).trans rfl
                by_cases hu0 : (0 : Int) < (un3 : Int)
                · by_cases hx0 : (0 : Int) < (xn3 : Int)
                  · have hxD : ¬ (xn3 : Int) < D := by have := HF2.out (by omega) (by omega); omega
                    go_wp2_with fail
                    go_roundw
                    case rel => exact ⟨i + 1, V1, L1, (LI ++ [y2]), LO ++ WW.map Wk.v, ⟨xa3, xn3, xc3⟩, ⟨ua3, un3, uc3⟩, si2, so2, by omega, by rfl, by rfl, by go_num, HFE.out, BB.out, HC1.out, HU1.out, HI.out, HO.out, AIO.out, HB.out⟩
                    case measure => simp [intOf]; omega
                  · go_wp2_with fail
                    go_roundw
                    case rel => exact ⟨i + 1, V1, L1, (LI ++ [y2]), LO ++ WW.map Wk.v, ⟨xa3, xn3, xc3⟩, ⟨ua3, un3, uc3⟩, si2, so2, by omega, by rfl, by rfl, by go_num, HFE.out, BB.out, HC1.out, HU1.out, HI.out, HO.out, AIO.out, HB.out⟩
                    case measure => simp [intOf]; omega
                · go_wp2_with fail
                  go_roundw
                  case rel => exact ⟨i + 1, V1, L1, (LI ++ [y2]), LO ++ WW.map Wk.v, ⟨xa3, xn3, xc3⟩, ⟨ua3, un3, uc3⟩, si2, so2, by omega, by rfl, by rfl, by go_num, HFE.out, BB.out, HC1.out, HU1.out, HI.out, HO.out, AIO.out, HB.out⟩
                  case measure => simp [intOf]; omega
        case' b1012_16 =>
          refine step_new rfl 25 rfl _ Try.zeroBf ?_
          intro v5 b h z
          have CB := hid (show BoxAt v5 v4.heap.size 25 #[.int .i64 0, .bool false, .slice none 0 0, .slice none 0 0] from b)
          have BB := hid (BB.out.belowAll h)
          have HC := hid (HC.out.below h)
          have HU := hid (HU.out.below h)
          have HI := hid (HI.out.below h)
          have HO := hid (HO.out.below h)
          have HB := hid (HB.out.trans (h.mono HB.out.size))
          have hsv5 : v4.heap.size + 1 ≤ v5.heap.size := by first | exact h.size | omega
          clear b h z
          refine hK1012.out _ _ (⟨BB.out, (HB.out.cell (by exact hbw)).trans c1.out, (HB.out.cell (by exact hbw)).trans c2.out, (HB.out.cell (by exact hbw)).trans c3.out, (HB.out.cell (by exact hbw)).trans c4.out⟩) (fun hHeld1012 => ?_)
          clear hK1012 K1012
          try simp only [Act.put, List.setIfInBounds_toArray, List.set_cons_zero, List.set_cons_succ]
          refine wpAnyH_ready (rs := [11]) (by kernel_rfl) (by simp) (AllReadyH.cons (o := { dst := some 85, op := Op.call { callee := Callee.value (Operand.func 9), args := #[Operand.tmp 74, Operand.tmp 79, Operand.tmp 84], argTypes := #[25, 27, 4] }, type := 30, pos := "law.go:61", after := _, guard := none }) rfl (fun K1021 hK1021 => ?_) AllReadyH.nil)
          have HBt := HB.out.size
          have HIL := hid (HI.out.lt)
          have HOL := hid (HO.out.lt)
          have HFN := hid (fun h => HFL.out.sendNo ⟨y0, y1, y2⟩ my (by omega) h)
          have HFY := hid (fun h => HFL.out.sendYes ⟨y0, y1, y2⟩ my (by omega) h)
          have HWL := hid (sendW_len xs T y2)
          go_simp
          refine (send_any D false y0 y1 y2 my (vs := x) (s := u) (xs := xs) (l := T) HC.out.sees HU.out.sees (by have := HLO.out.2.1; have := HI60.out; omega) (by have := HLT.out; have := HI60.out; omega)).mono ?_
          rintro e v6 ⟨x3, u3, q3, rfl, hc, hu, hq, hb⟩
          have BB := hid (BB.out.belowAll hb)
          have CB := hid (CB.out.belowAll hb)
          have HC := hid (HC.out.below hb)
          have HU := hid (HU.out.below hb)
          have HI := hid (HI.out.below hb)
          have HO := hid (HO.out.below hb)
          have HB := hid (HB.out.trans (hb.mono HB.out.size))
          have hsv6 : v5.heap.size ≤ v6.heap.size := by first | exact hb.size | omega
          obtain ⟨C, hC⟩ : ∃ c, sendC D xs T my = c := ⟨_, rfl⟩
          obtain ⟨V1, hV1⟩ : ∃ c, sendV D xs T y2 = c := ⟨_, rfl⟩
          obtain ⟨L1, hL1⟩ : ∃ c, sendL D false xs T ⟨y0, y1, y2⟩ my = c := ⟨_, rfl⟩
          obtain ⟨WW, hWW⟩ : ∃ c, sendW xs T y2 = c := ⟨_, rfl⟩
          simp only [hC, hV1, hL1, hWW] at HFN HFY HWL
          rw [hC]
          rw [hV1] at hc
          rw [hL1] at hu
          rw [hWW] at hq
          have AXI := hid (show Apart x3.val si.val from fun b h1 h2 => by have := (HIL.out b h2).2; have := (hc.lt b h1).1; omega)
          have AXO := hid (show Apart x3.val so.val from fun b h1 h2 => by have := (HOL.out b h2).2; have := (hc.lt b h1).1; omega)
          have HC1 := hid (hc.mono HBt)
          have HU1 := hid (hu.mono HBt)
          have HQ1 := hid (hq.mono HBt)
          clear hc hu hq HBt HC HU HIL HOL hC hV1 hL1 hWW
          clear hb
          refine hK1021.out _ _ (⟨BB.out, (HB.out.cell (by exact hbw)).trans c1.out, (HB.out.cell (by exact hbw)).trans c2.out, (HB.out.cell (by exact hbw)).trans c3.out, (HB.out.cell (by exact hbw)).trans c4.out⟩) (fun hHeld1021 => ?_)
          clear hK1021 K1021
          try simp only [Act.put, List.setIfInBounds_toArray, List.set_cons_zero, List.set_cons_succ]
          refine wpAnyH_take (i := 12) (oi := { dst := some 73, op := Op.move (Operand.tmp 85), type := 30, pos := "law.go:61", after := _, guard := none }) (v := ?_) rfl (by kernel_rfl) (by kernel_rfl) (by kernel_rfl) (fun _ _ _ h => h) (Or.inl ⟨by rfl, ?_⟩) (by assumption) ?_
          rotate_left
          · (intro w hSw; (try dsimp only at hSw); go_simp; try with_reducible rfl)
          simp only [Act.put, List.setIfInBounds_toArray, List.set_cons_zero, List.set_cons_succ]
          refine wpAnyH_take (i := 13) (oi := { dst := some 86, op := Op.extract (Operand.tmp 73) 0, type := 25, pos := "law.go:61", after := _, guard := none }) (v := ?_) rfl (by kernel_rfl) (by kernel_rfl) (by kernel_rfl) (fun _ _ _ h => h) (Or.inl ⟨by rfl, ?_⟩) (by assumption) ?_
          rotate_left
          · (intro w hSw; (try dsimp only at hSw); go_simp; try with_reducible rfl)
          simp only [Act.put, List.setIfInBounds_toArray, List.set_cons_zero, List.set_cons_succ]
          refine wpAnyH_take (i := 14) (oi := { dst := some 87, op := Op.extract (Operand.tmp 73) 1, type := 3, pos := "law.go:61", after := _, guard := none }) (v := ?_) rfl (by kernel_rfl) (by kernel_rfl) (by kernel_rfl) (fun _ _ _ h => h) (Or.inl ⟨by rfl, ?_⟩) (by assumption) ?_
          rotate_left
          · (intro w hSw; (try dsimp only at hSw); go_simp; try with_reducible rfl)
          simp only [Act.put, List.setIfInBounds_toArray, List.set_cons_zero, List.set_cons_succ]
          refine wpAnyH_take (i := 15) (oi := { dst := some 88, op := Op.extract (Operand.tmp 73) 2, type := 29, pos := "law.go:61", after := _, guard := none }) (v := ?_) rfl (by kernel_rfl) (by kernel_rfl) (by kernel_rfl) (fun _ _ _ h => h) (Or.inl ⟨by rfl, ?_⟩) (by assumption) ?_
          rotate_left
          · (intro w hSw; (try dsimp only at hSw); go_simp; try with_reducible rfl)
          simp only [Act.put, List.setIfInBounds_toArray, List.set_cons_zero, List.set_cons_succ]
          refine wpAnyH_ready (rs := [17]) (by kernel_rfl) (by simp) (AllReadyH.cons (o := { dst := none, op := Op.store 25 (Operand.tmp 14) (Operand.tmp 86), type := 0, pos := "law.go:61", after := _, guard := none }) rfl (fun K1026 hK1026 => ?_) AllReadyH.nil)
          refine step_store_whole rfl 25 _ _ rfl (v4.heap.size) rfl [.int .i64 D, .bool false, .slice x3.a x3.n x3.c, .slice u3.a u3.n u3.c] rfl _ _ CB.out rfl Try.infoBf (by simp [Value.oneCell']) ?_
          intro v7 b g z
          have hsv7 : v6.heap.size ≤ v7.heap.size := by omega
          have HI := hid (HI.out.put g CB.out (by decide))
          have HO := hid (HO.out.put g CB.out (by decide))
          have HC1 := hid (HC1.out.put g CB.out (by decide))
          have HU1 := hid (HU1.out.put g CB.out (by decide))
          have HQ1 := hid (HQ1.out.put g CB.out (by decide))
          have CB := hid (show BoxAt v7 (v4.heap.size) 25 #[.int .i64 D, .bool false, .slice x3.a x3.n x3.c, .slice u3.a u3.n u3.c] from b)
          have BB := hid (BB.out.grown g (fun e => by have := Option.some.inj e; omega))
          have HB := hid (HB.out.trans (grown_below g (by omega) (by omega)))
          clear b g z
          refine hK1026.out _ _ (⟨BB.out, (HB.out.cell (by exact hbw)).trans c1.out, (HB.out.cell (by exact hbw)).trans c2.out, (HB.out.cell (by exact hbw)).trans c3.out, (HB.out.cell (by exact hbw)).trans c4.out⟩) (fun hHeld1026 => ?_)
          clear hK1026 K1026
          try simp only [Act.put]
          refine wpAnyH_take (i := 18) (oi := { dst := some 15, op := Op.assign (Operand.tmp 87), type := 3, pos := "law.go:61", after := _, guard := none }) (v := ?_) rfl (by kernel_rfl) (by kernel_rfl) (by kernel_rfl) (fun _ _ _ h => h) (Or.inl ⟨by rfl, ?_⟩) (by assumption) ?_
          rotate_left
          · (intro w hSw; (try dsimp only at hSw); go_simp; try with_reducible rfl)
          simp only [Act.put, List.setIfInBounds_toArray, List.set_cons_zero, List.set_cons_succ]
          refine wpAnyH_take (i := 19) (oi := { dst := some 16, op := Op.assign (Operand.tmp 88), type := 29, pos := "law.go:61", after := _, guard := none }) (v := ?_) rfl (by kernel_rfl) (by kernel_rfl) (by kernel_rfl) (fun _ _ _ h => h) (Or.inl ⟨by rfl, ?_⟩) (by assumption) ?_
          rotate_left
          · (intro w hSw; (try dsimp only at hSw); go_simp; try with_reducible rfl)
          simp only [Act.put, List.setIfInBounds_toArray, List.set_cons_zero, List.set_cons_succ]
          refine wpAnyH_done (by kernel_rfl) ?_ _
          clear hHeld hHeld1012 hHeld1021 hHeld1026
          by_cases hC2 : C = 2
          · have HFE := hid (HFN.out hC2)
            have hCb : (C != 2) = false := by rw [hC2]; rfl
            clear hC2 HFN HFY AXI
            obtain ⟨qa, qn, qc⟩ := q3
            obtain ⟨ya, yc, hyv, -, -, -⟩ := HQ1.out.sees.form
            simp only [Sl.val, Value.slice.injEq] at hyv
            obtain ⟨rfl, hqn, rfl⟩ := hyv
            have HQN := hid hqn
            simp only [Sl.val]
            have hqn1 : qn ≤ 1 := by rw [hqn]; exact HWL.out
            clear hqn
            go_wp2_with fail
            go_loopw [8, 17] (fun vo t wc => ∃ (j : Nat) (so2 : Sl), j ≤ qn ∧ vo = .slice so2.a so2.n so2.c ∧ t = .int .i64 j ∧ BoxAt wc (v1.heap.size) 25 #[.int .i64 D, .bool false, .slice x.a x.n x.c, .slice u.a u.n u.c] ∧ BoxAt wc (v4.heap.size) 25 #[.int .i64 D, .bool false, .slice x3.a x3.n x3.c, .slice u3.a u3.n u3.c] ∧ OI wc w.heap.size x3.val V1 ∧ OWt wc w.heap.size u3.val L1 ∧ OI wc w.heap.size si.val LI ∧ OI wc w.heap.size so2.val (LO ++ (WW.take j).map Wk.v) ∧ OWk wc w.heap.size (.slice qa qn qc) WW ∧ Apart x3.val so2.val ∧ Apart si.val so2.val ∧ Below w.heap.size w wc ∧ v7.heap.size ≤ wc.heap.size) (fun _ t _ => qn - (intOf t).toNat)
            case atStart => exact ⟨0, so, by omega, rfl, rfl, BB.out, CB.out, HC1.out, HU1.out, HI.out, by simpa using HO.out, HQ1.out, AXO.out, AIO.out, HB.out, Nat.le_refl _⟩
            case round =>
              clear BB CB HC1 HU1 HI HO HQ1 AXO AIO HB
              obtain ⟨j, so2, hj, rfl, rfl, hbb, hcb, hc1, hu1, hii, hoo, hqq, hax, hai, hbel, hsz⟩ := hrel
              have BB := hid hbb
              have CB := hid hcb
              have HC1 := hid hc1
              have HU1 := hid hu1
              have HI := hid hii
              have HO := hid hoo
              have HQ1 := hid hqq
              have AXO := hid hax
              have AIO := hid hai
              have HB := hid hbel
              have hsw2 : w.heap.size ≤ wr.heap.size := hbel.size
              clear hbb hcb hc1 hu1 hii hoo hqq hax hai hbel
              by_cases hjt : j < qn
              · have hWj := take_snocK WW j (by rw [← HQN.out]; exact hjt)
                obtain ⟨ya2, yc2, hyv2, -, hy2, hyc⟩ := HQ1.out.sees.form
                simp only [Value.slice.injEq] at hyv2
                obtain ⟨rfl, -, rfl⟩ := hyv2
                obtain ⟨xb, xo, rfl, hxb, hxc⟩ := hyc (by rw [← HQN.out]; omega)
                have e2 := hxc j (by rw [← HQN.out]; exact hjt) 2 (by decide)
                obtain ⟨z, hz⟩ : ∃ z, WW.getD j Wk.zero = z := ⟨_, rfl⟩
                rw [hz] at e2 hWj
                have HWJ := hid hWj
                clear hxc hyc hz hWj
                obtain ⟨z0, z1, z2⟩ := z
                simp only [Wk.cells, List.getD_cons_zero, List.getD_cons_succ] at e2
                unfold maxLen at hy2
                have FL3 := hid trivial
                have FL4 := hid trivial
                go_wp2_with (first
                  | (have hfl := FL3.out
                     refine wpList_litI rfl (.tmp 111) rfl (z2) rfl ?_
                     intro v8 b h
                     have LB := hid (show BoxAt v8 wr.heap.size 3 #[.int .i64 (z2)] from b)
                     have BB := hid (BB.out.belowAll h)
                     have CB := hid (CB.out.belowAll h)
                     have HI := hid (HI.out.below h)
                     have HO := hid (HO.out.below h)
                     have HC1 := hid (HC1.out.below h)
                     have HU1 := hid (HU1.out.below h)
                     have HQ1 := hid (HQ1.out.below h)
                     have HB := hid (HB.out.trans (h.mono HB.out.size))
                     have hsv8 : wr.heap.size ≤ v8.heap.size := by first | exact h.size | omega
                     clear b h hfl FL3)
                  | (have hfl := FL4.out
                     at_builtin
                     refine app_at rfl (.tmp 106) (.tmp 112) rfl (w.heap.size) _ (LO ++ (WW.take j).map Wk.v) rfl HO.out _ [z2] rfl (Sees.box (ys := [z2]) LB.out (by simp)) (by have := HLO.out; have := HLI.out; have := HI60.out; have := HWL.out; simp; omega) (by omega) ?_
                     intro uu v9 ho g h hloc
                     obtain ⟨so3, rfl, -⟩ := ho.sl
                     have hsv9 : v8.heap.size ≤ v9.heap.size := g.size
                     have AXOn := hid (AXO.out.grown HC1.out hloc)
                     have AIOn := hid (AIO.out.grown HI.out hloc)
                     have HC1 := hid (HC1.out.kept AXO.out g)
                     have HI := hid (HI.out.kept AIO.out g)
                     have AXO := AXOn
                     have AIO := AIOn
                     have BB := hid (BB.out.grown g (OI.apart HO.out BB.out (by decide)))
                     have CB := hid (CB.out.grown g (OI.apart HO.out CB.out (by decide)))
                     have HU1 := hid (HU1.out.over HO.out g)
                     have HQ1 := hid (HQ1.out.over HO.out g)
                     have HB := hid (HB.out.trans h)
                     have HO := hid ho
                     clear ho g h hloc AXOn AIOn LB
                     clear hfl FL4)
                  | fail)
                go_roundw
                case rel => exact ⟨j + 1, so3, by omega, by rfl, by go_num, BB.out, CB.out, HC1.out, HU1.out, HI.out, by have := HO.out; rw [HWJ.out, ← List.append_assoc]; exact this, HQ1.out, AXO.out, AIO.out, HB.out, by omega⟩
                case measure => simp [intOf]; omega
              · have hjq : j = WW.length := by rw [← HQN.out]; omega
                have HO := hid (show OI wr w.heap.size so2.val (LO ++ WW.map Wk.v) from by have := HO.out; rwa [hjq, List.take_length] at this)
                clear hjq
                obtain ⟨xa3, xn3, xc3⟩ := x3
                obtain ⟨ua3, un3, uc3⟩ := u3
                have hxn : xn3 = V1.length := HC1.out.n
                have hun : un3 = L1.length := HU1.out.n
                have hA : ¬ D < (xn3 : Int) := by have := HFE.out.le; rw [← hxn] at this; omega
                have HF2 := hid (show 0 < xn3 → 0 < un3 → ¬ (xn3 : Int) < D by rw [hxn, hun]; exact HFE.out.full)
                have hxn9 : xn3 ≤ 900000 := by have := HFE.out.lo; have := HI60.out; omega
                clear hxn hun
                have FL3 := hid trivial
                go_wp2_with (first
                  | (refine wpList_load_box rfl 25 _ rfl (v4.heap.size) rfl _ _ CB.out _ Try.underlying25 Try.infoBf ?_)
                  | (have hfl := FL3.out
                     refine wpList_store_whole rfl 25 _ _ rfl rfl (v1.heap.size) rfl [.int .i64 D, .bool false, .slice xa3 xn3 xc3, .slice ua3 un3 uc3] rfl _ _ BB.out rfl Try.infoBf (by simp [Value.oneCell']) ?_
                     intro v8 b g z
                     have hsv8 : wr.heap.size ≤ v8.heap.size := by omega
                     have HI := hid (HI.out.put g BB.out (by decide))
                     have HO := hid (HO.out.put g BB.out (by decide))
                     have HC1 := hid (HC1.out.put g BB.out (by decide))
                     have HU1 := hid (HU1.out.put g BB.out (by decide))
                     have HQ1 := hid (HQ1.out.put g BB.out (by decide))
                     have BB := hid (show BoxAt v8 (v1.heap.size) 25 #[.int .i64 D, .bool false, .slice xa3 xn3 xc3, .slice ua3 un3 uc3] from b)
                     have CB := hid (CB.out.grown g (fun e => by have := Option.some.inj e; omega))
                     have HB := hid (HB.out.trans (grown_below g (by omega) (by omega)))
                     clear b g z hfl FL3
                     refine Hid.out ?_)
                  | fail)
                refine hid ?_
                have kBB2 : v8.cell? ⟨v1.heap.size, 2, none⟩ = some (.slice xa3 xn3 xc3) := (BoxAt.cell BB.out 2).trans rfl
                have kBB3 : v8.cell? ⟨v1.heap.size, 3, none⟩ = some (.slice ua3 un3 uc3) := (BoxAt.cell BB.out 3).trans rfl
                by_cases hu0 : (0 : Int) < (un3 : Int)
                · by_cases hx0 : (0 : Int) < (xn3 : Int)
                  · have hxD : ¬ (xn3 : Int) < D := by have := HF2.out (by omega) (by omega); omega
                    go_wp2_with fail
                    go_roundw
                    case rel => exact ⟨i + 1, V1, L1, LI, LO ++ WW.map Wk.v, ⟨xa3, xn3, xc3⟩, ⟨ua3, un3, uc3⟩, si, so2, by omega, by rfl, by rfl, by go_num, HFE.out, BB.out, HC1.out, HU1.out, HI.out, HO.out, AIO.out, HB.out⟩
                    case measure => simp [intOf]; omega
                  · go_wp2_with fail
                    go_roundw
                    case rel => exact ⟨i + 1, V1, L1, LI, LO ++ WW.map Wk.v, ⟨xa3, xn3, xc3⟩, ⟨ua3, un3, uc3⟩, si, so2, by omega, by rfl, by rfl, by go_num, HFE.out, BB.out, HC1.out, HU1.out, HI.out, HO.out, AIO.out, HB.out⟩
                    case measure => simp [intOf]; omega
                · go_wp2_with fail
                  go_roundw
                  case rel => exact ⟨i + 1, V1, L1, LI, LO ++ WW.map Wk.v, ⟨xa3, xn3, xc3⟩, ⟨ua3, un3, uc3⟩, si, so2, by omega, by rfl, by rfl, by go_num, HFE.out, BB.out, HC1.out, HU1.out, HI.out, HO.out, AIO.out, HB.out⟩
                  case measure => simp [intOf]; omega
          · have HFE := hid (HFY.out hC2)
            have hCb : (C != 2) = true := by simpa using hC2
            clear hC2 HFN HFY
            have d4 := (HB.out.cell (by exact hbw)).trans c4.out
            have FL3 := hid trivial
            have FL4 := hid trivial
            go_wp2_with (first
              | (have hfl := FL3.out
                 refine wpList_litI rfl (.tmp 97) rfl (y2) rfl ?_
                 intro v8 b h
                 have LB := hid (show BoxAt v8 v7.heap.size 3 #[.int .i64 (y2)] from b)
                 have BB := hid (BB.out.belowAll h)
                 have CB := hid (CB.out.belowAll h)
                 have HI := hid (HI.out.below h)
                 have HO := hid (HO.out.below h)
                 have HC1 := hid (HC1.out.below h)
                 have HU1 := hid (HU1.out.below h)
                 have HQ1 := hid (HQ1.out.below h)
                 have HB := hid (HB.out.trans (h.mono HB.out.size))
                 have hsv8 : v7.heap.size ≤ v8.heap.size := by first | exact h.size | omega
                 clear b h hfl FL3)
              | (have hfl := FL4.out
                 at_builtin
                 refine app_at rfl (.tmp 91) (.tmp 98) rfl (w.heap.size) _ LI rfl HI.out _ [y2] rfl (Sees.box (ys := [y2]) LB.out (by simp)) (by have := HLO.out; have := HLI.out; have := HI60.out; simp; omega) (by omega) ?_
                 intro uu v9 ho g h hloc
                 obtain ⟨si2, rfl, -⟩ := ho.sl
                 have hsv9 : v8.heap.size ≤ v9.heap.size := g.size
                 have AXIn := hid (AXI.out.grown HC1.out hloc)
                 have AIOn := hid (((AIO.out.symm).grown HO.out hloc).symm)
                 have HC1 := hid (HC1.out.kept AXI.out g)
                 have HO := hid (HO.out.kept AIO.out.symm g)
                 have AXI := AXIn
                 have AIO := AIOn
                 have BB := hid (BB.out.grown g (OI.apart HI.out BB.out (by decide)))
                 have CB := hid (CB.out.grown g (OI.apart HI.out CB.out (by decide)))
                 have HU1 := hid (HU1.out.over HI.out g)
                 have HQ1 := hid (HQ1.out.over HI.out g)
                 have HB := hid (HB.out.trans h)
                 have HI := hid ho
                 clear ho g h hloc AXIn AIOn LB
                 clear hfl FL4
                 refine Hid.out ?_)
              | fail)
            refine hid ?_
            clear d4 AXI
            obtain ⟨qa, qn, qc⟩ := q3
            obtain ⟨ya, yc, hyv, -, -, -⟩ := HQ1.out.sees.form
            simp only [Sl.val, Value.slice.injEq] at hyv
            obtain ⟨rfl, hqn, rfl⟩ := hyv
            have HQN := hid hqn
            simp only [Sl.val]
            have hqn1 : qn ≤ 1 := by rw [hqn]; exact HWL.out
            clear hqn
            go_wp2_with fail
            go_loopw [8, 17] (fun vo t wc => ∃ (j : Nat) (so2 : Sl), j ≤ qn ∧ vo = .slice so2.a so2.n so2.c ∧ t = .int .i64 j ∧ BoxAt wc (v1.heap.size) 25 #[.int .i64 D, .bool false, .slice x.a x.n x.c, .slice u.a u.n u.c] ∧ BoxAt wc (v4.heap.size) 25 #[.int .i64 D, .bool false, .slice x3.a x3.n x3.c, .slice u3.a u3.n u3.c] ∧ OI wc w.heap.size x3.val V1 ∧ OWt wc w.heap.size u3.val L1 ∧ OI wc w.heap.size si2.val (LI ++ [y2]) ∧ OI wc w.heap.size so2.val (LO ++ (WW.take j).map Wk.v) ∧ OWk wc w.heap.size (.slice qa qn qc) WW ∧ Apart x3.val so2.val ∧ Apart si2.val so2.val ∧ Below w.heap.size w wc ∧ v9.heap.size ≤ wc.heap.size) (fun _ t _ => qn - (intOf t).toNat)
            case atStart => exact ⟨0, so, by omega, rfl, rfl, BB.out, CB.out, HC1.out, HU1.out, HI.out, by simpa using HO.out, HQ1.out, AXO.out, AIO.out, HB.out, Nat.le_refl _⟩
            case round =>
              clear BB CB HC1 HU1 HI HO HQ1 AXO AIO HB
              obtain ⟨j, so2, hj, rfl, rfl, hbb, hcb, hc1, hu1, hii, hoo, hqq, hax, hai, hbel, hsz⟩ := hrel
              have BB := hid hbb
              have CB := hid hcb
              have HC1 := hid hc1
              have HU1 := hid hu1
              have HI := hid hii
              have HO := hid hoo
              have HQ1 := hid hqq
              have AXO := hid hax
              have AIO := hid hai
              have HB := hid hbel
              have hsw2 : w.heap.size ≤ wr.heap.size := hbel.size
              clear hbb hcb hc1 hu1 hii hoo hqq hax hai hbel
              by_cases hjt : j < qn
              · have hWj := take_snocK WW j (by rw [← HQN.out]; exact hjt)
                obtain ⟨ya2, yc2, hyv2, -, hy2, hyc⟩ := HQ1.out.sees.form
                simp only [Value.slice.injEq] at hyv2
                obtain ⟨rfl, -, rfl⟩ := hyv2
                obtain ⟨xb, xo, rfl, hxb, hxc⟩ := hyc (by rw [← HQN.out]; omega)
                have e2 := hxc j (by rw [← HQN.out]; exact hjt) 2 (by decide)
                obtain ⟨z, hz⟩ : ∃ z, WW.getD j Wk.zero = z := ⟨_, rfl⟩
                rw [hz] at e2 hWj
                have HWJ := hid hWj
                clear hxc hyc hz hWj
                obtain ⟨z0, z1, z2⟩ := z
                simp only [Wk.cells, List.getD_cons_zero, List.getD_cons_succ] at e2
                unfold maxLen at hy2
                have FL5 := hid trivial
                have FL6 := hid trivial
                go_wp2_with (first
                  | (have hfl := FL5.out
                     refine wpList_litI rfl (.tmp 111) rfl (z2) rfl ?_
                     intro v10 b h
                     have LB := hid (show BoxAt v10 wr.heap.size 3 #[.int .i64 (z2)] from b)
                     have BB := hid (BB.out.belowAll h)
                     have CB := hid (CB.out.belowAll h)
                     have HI := hid (HI.out.below h)
                     have HO := hid (HO.out.below h)
                     have HC1 := hid (HC1.out.below h)
                     have HU1 := hid (HU1.out.below h)
                     have HQ1 := hid (HQ1.out.below h)
                     have HB := hid (HB.out.trans (h.mono HB.out.size))
                     have hsv10 : wr.heap.size ≤ v10.heap.size := by first | exact h.size | omega
                     clear b h hfl FL5)
                  | (have hfl := FL6.out
                     at_builtin
                     refine app_at rfl (.tmp 106) (.tmp 112) rfl (w.heap.size) _ (LO ++ (WW.take j).map Wk.v) rfl HO.out _ [z2] rfl (Sees.box (ys := [z2]) LB.out (by simp)) (by have := HLO.out; have := HLI.out; have := HI60.out; have := HWL.out; simp; omega) (by omega) ?_
                     intro uu v11 ho g h hloc
                     obtain ⟨so3, rfl, -⟩ := ho.sl
                     have hsv11 : v10.heap.size ≤ v11.heap.size := g.size
                     have AXOn := hid (AXO.out.grown HC1.out hloc)
                     have AIOn := hid (AIO.out.grown HI.out hloc)
                     have HC1 := hid (HC1.out.kept AXO.out g)
                     have HI := hid (HI.out.kept AIO.out g)
                     have AXO := AXOn
                     have AIO := AIOn
                     have BB := hid (BB.out.grown g (OI.apart HO.out BB.out (by decide)))
                     have CB := hid (CB.out.grown g (OI.apart HO.out CB.out (by decide)))
                     have HU1 := hid (HU1.out.over HO.out g)
                     have HQ1 := hid (HQ1.out.over HO.out g)
                     have HB := hid (HB.out.trans h)
                     have HO := hid ho
                     clear ho g h hloc AXOn AIOn LB
                     clear hfl FL6)
                  | fail)
                go_roundw
                case rel => exact ⟨j + 1, so3, by omega, by rfl, by go_num, BB.out, CB.out, HC1.out, HU1.out, HI.out, by have := HO.out; rw [HWJ.out, ← List.append_assoc]; exact this, HQ1.out, AXO.out, AIO.out, HB.out, by omega⟩
                case measure => simp [intOf]; omega
              · have hjq : j = WW.length := by rw [← HQN.out]; omega
                have HO := hid (show OI wr w.heap.size so2.val (LO ++ WW.map Wk.v) from by have := HO.out; rwa [hjq, List.take_length] at this)
                clear hjq
                obtain ⟨xa3, xn3, xc3⟩ := x3
                obtain ⟨ua3, un3, uc3⟩ := u3
                have hxn : xn3 = V1.length := HC1.out.n
                have hun : un3 = L1.length := HU1.out.n
                have hA : ¬ D < (xn3 : Int) := by have := HFE.out.le; rw [← hxn] at this; omega
                have HF2 := hid (show 0 < xn3 → 0 < un3 → ¬ (xn3 : Int) < D by rw [hxn, hun]; exact HFE.out.full)
                have hxn9 : xn3 ≤ 900000 := by have := HFE.out.lo; have := HI60.out; omega
                clear hxn hun
                have FL5 := hid trivial
                go_wp2_with (first
                  | (refine wpList_load_box rfl 25 _ rfl (v4.heap.size) rfl _ _ CB.out _ Try.underlying25 Try.infoBf ?_)
                  | (have hfl := FL5.out
                     refine wpList_store_whole rfl 25 _ _ rfl rfl (v1.heap.size) rfl [.int .i64 D, .bool false, .slice xa3 xn3 xc3, .slice ua3 un3 uc3] rfl _ _ BB.out rfl Try.infoBf (by simp [Value.oneCell']) ?_
                     intro v10 b g z
                     have hsv10 : wr.heap.size ≤ v10.heap.size := by omega
                     have HI := hid (HI.out.put g BB.out (by decide))
                     have HO := hid (HO.out.put g BB.out (by decide))
                     have HC1 := hid (HC1.out.put g BB.out (by decide))
                     have HU1 := hid (HU1.out.put g BB.out (by decide))
                     have HQ1 := hid (HQ1.out.put g BB.out (by decide))
                     have BB := hid (show BoxAt v10 (v1.heap.size) 25 #[.int .i64 D, .bool false, .slice xa3 xn3 xc3, .slice ua3 un3 uc3] from b)
                     have CB := hid (CB.out.grown g (fun e => by have := Option.some.inj e; omega))
                     have HB := hid (HB.out.trans (grown_below g (by omega) (by omega)))
                     clear b g z hfl FL5
                     refine Hid.out ?_)
                  | fail)
                refine hid ?_
                have kBB2 : v10.cell? ⟨v1.heap.size, 2, none⟩ = some (.slice xa3 xn3 xc3) := (BoxAt.cell BB.out 2).trans rfl
                have kBB3 : v10.cell? ⟨v1.heap.size, 3, none⟩ = some (.slice ua3 un3 uc3) := (BoxAt.cell BB.out 3).trans rfl
                by_cases hu0 : (0 : Int) < (un3 : Int)
                · by_cases hx0 : (0 : Int) < (xn3 : Int)
                  · have hxD : ¬ (xn3 : Int) < D := by have := HF2.out (by omega) (by omega); omega
                    go_wp2_with fail
                    go_roundw
                    case rel => exact ⟨i + 1, V1, L1, (LI ++ [y2]), LO ++ WW.map Wk.v, ⟨xa3, xn3, xc3⟩, ⟨ua3, un3, uc3⟩, si2, so2, by omega, by rfl, by rfl, by go_num, HFE.out, BB.out, HC1.out, HU1.out, HI.out, HO.out, AIO.out, HB.out⟩
                    case measure => simp [intOf]; omega
                  · go_wp2_with fail
                    go_roundw
                    case rel => exact ⟨i + 1, V1, L1, (LI ++ [y2]), LO ++ WW.map Wk.v, ⟨xa3, xn3, xc3⟩, ⟨ua3, un3, uc3⟩, si2, so2, by omega, by rfl, by rfl, by go_num, HFE.out, BB.out, HC1.out, HU1.out, HI.out, HO.out, AIO.out, HB.out⟩
                    case measure => simp [intOf]; omega
                · go_wp2_with fail
                  go_roundw
                  case rel => exact ⟨i + 1, V1, L1, (LI ++ [y2]), LO ++ WW.map Wk.v, ⟨xa3, xn3, xc3⟩, ⟨ua3, un3, uc3⟩, si2, so2, by omega, by rfl, by rfl, by go_num, HFE.out, BB.out, HC1.out, HU1.out, HI.out, HO.out, AIO.out, HB.out⟩
                  case measure => simp [intOf]; omega
      · go_wp2_with fail
        have BB := hid (BoxAt.drew BB.out)
        have HC := hid (HC.out.below ((Below.refl wr.heap.size wr).drew))
        have HU := hid (HU.out.below ((Below.refl wr.heap.size wr).drew))
        have HI := hid (HI.out.below ((Below.refl wr.heap.size wr).drew))
        have HO := hid (HO.out.below ((Below.refl wr.heap.size wr).drew))
        have HB := hid HB.out.drew
        have hsv4 : wr.heap.size ≤ wr.drew.heap.size := Nat.le_refl _
        refine wp_region_held_drew (S := (fun w' : World => BoxAt w' (v1.heap.size) 25 #[.int .i64 D, .bool false, .slice x.a x.n x.c, .slice u.a u.n u.c] ∧ w'.cell? ⟨bb, off + i * 5 + 1, none⟩ = some (.bool my) ∧ w'.cell? ⟨bb, off + i * 5 + 2, none⟩ = some (.int .i64 y0) ∧ w'.cell? ⟨bb, off + i * 5 + 3, none⟩ = some (.int .i64 y1) ∧ w'.cell? ⟨bb, off + i * 5 + 4, none⟩ = some (.int .i64 y2))) (by kernel_rfl) (⟨BB.out, (HB.out.cell (by exact hbw)).trans c1.out, (HB.out.cell (by exact hbw)).trans c2.out, (HB.out.cell (by exact hbw)).trans c3.out, (HB.out.cell (by exact hbw)).trans c4.out⟩) (fun hHeld => ?_)
        generalize wr.drew = v4 at *
        refine wpAnyH_take (i := 0) (oi := { dst := some 50, op := Op.load 25 (Operand.tmp 6), type := 25, pos := "law.go:54", after := _, guard := none }) (v := ?_) rfl (by kernel_rfl) (by kernel_rfl) (by kernel_rfl) (fun _ _ _ h => h) (Or.inl ⟨by rfl, ?_⟩) (by assumption) ?_
        rotate_left
        · (intro W hSw; (try dsimp only at hSw); obtain ⟨hs0S, hs1S, hs2S, hs3S, hs4S⟩ := hSw; have c0_0 : W.cell? ⟨v1.heap.size, 0, none⟩ = some (.int .i64 D) := (BoxAt.cell hs0S 0).trans rfl; have c0_1 : W.cell? ⟨v1.heap.size, 1, none⟩ = some (.bool false) := (BoxAt.cell hs0S 1).trans rfl; have c0_2 : W.cell? ⟨v1.heap.size, 2, none⟩ = some (.slice x.a x.n x.c) := (BoxAt.cell hs0S 2).trans rfl; have c0_3 : W.cell? ⟨v1.heap.size, 3, none⟩ = some (.slice u.a u.n u.c) := (BoxAt.cell hs0S 3).trans rfl; clear hs0S; go_simp; try with_reducible rfl)
        simp only [Act.put, List.setIfInBounds_toArray, List.set_cons_zero, List.set_cons_succ]
        refine wpAnyH_take (i := 1) (oi := { dst := some 51, op := Op.move (Operand.tmp 1), type := 37, pos := "law.go:54", after := _, guard := none }) (v := ?_) rfl (by kernel_rfl) (by kernel_rfl) (by kernel_rfl) (fun _ _ _ h => h) (Or.inl ⟨by rfl, ?_⟩) (by assumption) ?_
        rotate_left
        · (intro w hSw; (try dsimp only at hSw); go_simp; try with_reducible rfl)
        simp only [Act.put, List.setIfInBounds_toArray, List.set_cons_zero, List.set_cons_succ]
        refine wpAnyH_take (i := 2) (oi := { dst := some 52, op := Op.move (Operand.tmp 9), type := 3, pos := "law.go:54", after := _, guard := none }) (v := ?_) rfl (by kernel_rfl) (by kernel_rfl) (by kernel_rfl) (fun _ _ _ h => h) (Or.inl ⟨by rfl, ?_⟩) (by assumption) ?_
        rotate_left
        · (intro w hSw; (try dsimp only at hSw); go_simp; try with_reducible rfl)
        simp only [Act.put, List.setIfInBounds_toArray, List.set_cons_zero, List.set_cons_succ]
        refine wpAnyH_take (i := 3) (oi := { dst := some 53, op := Op.indexAddr 37 (Operand.tmp 51) (Operand.tmp 52), type := 0, pos := "law.go:54", after := _, guard := none }) (v := ?_) rfl (by kernel_rfl) (by kernel_rfl) (by kernel_rfl) (fun _ _ _ h => h) (Or.inl ⟨by rfl, ?_⟩) (by assumption) ?_
        rotate_left
        · (intro w hSw; (try dsimp only at hSw); go_simp; try with_reducible rfl)
        simp only [Act.put, List.setIfInBounds_toArray, List.set_cons_zero, List.set_cons_succ]
        refine wpAnyH_take (i := 4) (oi := { dst := some 54, op := Op.fieldAddr 39 (Operand.tmp 53) 2, type := 0, pos := "law.go:54", after := _, guard := none }) (v := ?_) rfl (by kernel_rfl) (by kernel_rfl) (by kernel_rfl) (fun _ _ _ h => h) (Or.inl ⟨by rfl, ?_⟩) (by assumption) ?_
        rotate_left
        · (intro w hSw; (try dsimp only at hSw); go_simp; try with_reducible rfl)
        simp only [Act.put, List.setIfInBounds_toArray, List.set_cons_zero, List.set_cons_succ]
        refine wpAnyH_take (i := 5) (oi := { dst := some 55, op := Op.load 27 (Operand.tmp 54), type := 27, pos := "law.go:54", after := _, guard := none }) (v := ?_) rfl (by kernel_rfl) (by kernel_rfl) (by kernel_rfl) (fun _ _ _ h => h) (Or.inl ⟨by rfl, ?_⟩) (by assumption) ?_
        rotate_left
        · (intro W hSw; (try dsimp only at hSw); obtain ⟨hs0S, hs1S, hs2S, hs3S, hs4S⟩ := hSw; have c0_0 : W.cell? ⟨v1.heap.size, 0, none⟩ = some (.int .i64 D) := (BoxAt.cell hs0S 0).trans rfl; have c0_1 : W.cell? ⟨v1.heap.size, 1, none⟩ = some (.bool false) := (BoxAt.cell hs0S 1).trans rfl; have c0_2 : W.cell? ⟨v1.heap.size, 2, none⟩ = some (.slice x.a x.n x.c) := (BoxAt.cell hs0S 2).trans rfl; have c0_3 : W.cell? ⟨v1.heap.size, 3, none⟩ = some (.slice u.a u.n u.c) := (BoxAt.cell hs0S 3).trans rfl; clear hs0S; go_simp; try with_reducible rfl)
        simp only [Act.put, List.setIfInBounds_toArray, List.set_cons_zero, List.set_cons_succ]
        refine wpAnyH_take (i := 6) (oi := { dst := some 56, op := Op.move (Operand.tmp 1), type := 37, pos := "law.go:54", after := _, guard := none }) (v := ?_) rfl (by kernel_rfl) (by kernel_rfl) (by kernel_rfl) (fun _ _ _ h => h) (Or.inl ⟨by rfl, ?_⟩) (by assumption) ?_
        rotate_left
        · (intro w hSw; (try dsimp only at hSw); go_simp; try with_reducible rfl)
        simp only [Act.put, List.setIfInBounds_toArray, List.set_cons_zero, List.set_cons_succ]
        refine wpAnyH_take (i := 7) (oi := { dst := some 57, op := Op.move (Operand.tmp 9), type := 3, pos := "law.go:54", after := _, guard := none }) (v := ?_) rfl (by kernel_rfl) (by kernel_rfl) (by kernel_rfl) (fun _ _ _ h => h) (Or.inl ⟨by rfl, ?_⟩) (by assumption) ?_
        rotate_left
        · (intro w hSw; (try dsimp only at hSw); go_simp; try with_reducible rfl)
        simp only [Act.put, List.setIfInBounds_toArray, List.set_cons_zero, List.set_cons_succ]
        refine wpAnyH_take (i := 8) (oi := { dst := some 58, op := Op.indexAddr 37 (Operand.tmp 56) (Operand.tmp 57), type := 0, pos := "law.go:54", after := _, guard := none }) (v := ?_) rfl (by kernel_rfl) (by kernel_rfl) (by kernel_rfl) (fun _ _ _ h => h) (Or.inl ⟨by rfl, ?_⟩) (by assumption) ?_
        rotate_left
        · (intro w hSw; (try dsimp only at hSw); go_simp; try with_reducible rfl)
        simp only [Act.put, List.setIfInBounds_toArray, List.set_cons_zero, List.set_cons_succ]
        refine wpAnyH_take (i := 9) (oi := { dst := some 59, op := Op.fieldAddr 39 (Operand.tmp 58) 1, type := 0, pos := "law.go:54", after := _, guard := none }) (v := ?_) rfl (by kernel_rfl) (by kernel_rfl) (by kernel_rfl) (fun _ _ _ h => h) (Or.inl ⟨by rfl, ?_⟩) (by assumption) ?_
        rotate_left
        · (intro w hSw; (try dsimp only at hSw); go_simp; try with_reducible rfl)
        simp only [Act.put, List.setIfInBounds_toArray, List.set_cons_zero, List.set_cons_succ]
        refine wpAnyH_take (i := 10) (oi := { dst := some 60, op := Op.load 4 (Operand.tmp 59), type := 4, pos := "law.go:54", after := _, guard := none }) (v := ?_) rfl (by kernel_rfl) (by kernel_rfl) (by kernel_rfl) (fun _ _ _ h => h) (Or.inl ⟨by rfl, ?_⟩) (by assumption) ?_
        rotate_left
        · (intro W hSw; (try dsimp only at hSw); obtain ⟨hs0S, hs1S, hs2S, hs3S, hs4S⟩ := hSw; have c0_0 : W.cell? ⟨v1.heap.size, 0, none⟩ = some (.int .i64 D) := (BoxAt.cell hs0S 0).trans rfl; have c0_1 : W.cell? ⟨v1.heap.size, 1, none⟩ = some (.bool false) := (BoxAt.cell hs0S 1).trans rfl; have c0_2 : W.cell? ⟨v1.heap.size, 2, none⟩ = some (.slice x.a x.n x.c) := (BoxAt.cell hs0S 2).trans rfl; have c0_3 : W.cell? ⟨v1.heap.size, 3, none⟩ = some (.slice u.a u.n u.c) := (BoxAt.cell hs0S 3).trans rfl; clear hs0S; go_simp; try with_reducible rfl)
        simp only [Act.put, List.setIfInBounds_toArray, List.set_cons_zero, List.set_cons_succ]
        refine wpAnyH_ready (rs := [11, 17]) (by kernel_rfl) (by simp) (AllReadyH.cons (o := { dst := some 61, op := Op.call { callee := Callee.value (Operand.func 13), args := #[Operand.tmp 50, Operand.tmp 55, Operand.tmp 60], argTypes := #[25, 27, 4] }, type := 34, pos := "law.go:54", after := _, guard := none }) rfl (fun K2012 hK2012 => ?b2012_11) (AllReadyH.cons (o := { dst := some 10, op := Op.alloc 25, type := 0, pos := "law.go:54", after := _, guard := none }) rfl (fun K2012 hK2012 => ?b2012_17) AllReadyH.nil))
        case' b2012_11 =>
          have HBt := HB.out.size
          have HIL := hid (HI.out.lt)
          have HOL := hid (HO.out.lt)
          have HFN := hid (fun h => HFL.out.takeNo ⟨y0, y1, y2⟩ my h)
          have HFY := hid (fun h => HFL.out.takeYes ⟨y0, y1, y2⟩ my h)
          go_simp
          refine (take_any D false y0 y1 y2 my (vs := x) (s := u) (xs := xs) (l := T) HC.out.sees HU.out.sees (by have := HLO.out.2.1; have := HI60.out; omega) (by have := HLT.out; have := HI60.out; omega)).mono ?_
          rintro e v5 ⟨x3, u3, q3, rfl, hc, hu, hq, hb⟩
          have BB := hid (BB.out.belowAll hb)
          have HC := hid (HC.out.below hb)
          have HU := hid (HU.out.below hb)
          have HI := hid (HI.out.below hb)
          have HO := hid (HO.out.below hb)
          have HB := hid (HB.out.trans (hb.mono HB.out.size))
          have hsv5 : v4.heap.size ≤ v5.heap.size := by first | exact hb.size | omega
          obtain ⟨C, hC⟩ : ∃ c, takeC xs my = c := ⟨_, rfl⟩
          obtain ⟨V1, hV1⟩ : ∃ c, takeV xs T = c := ⟨_, rfl⟩
          obtain ⟨L1, hL1⟩ : ∃ c, takeL false xs T ⟨y0, y1, y2⟩ my = c := ⟨_, rfl⟩
          obtain ⟨TX, hTX⟩ : ∃ c, takeX xs = c := ⟨_, rfl⟩
          simp only [hC, hV1, hL1, hTX] at HFN HFY
          rw [hC, hTX]
          rw [hV1] at hc
          rw [hL1] at hu
          have AXI := hid (show Apart x3.val si.val from fun b h1 h2 => by have := (HIL.out b h2).2; have := (hc.lt b h1).1; omega)
          have AXO := hid (show Apart x3.val so.val from fun b h1 h2 => by have := (HOL.out b h2).2; have := (hc.lt b h1).1; omega)
          have HC1 := hid (hc.mono HBt)
          have HU1 := hid (hu.mono HBt)
          clear hc hu hq HBt HC HU HIL HOL hC hV1 hL1 hTX
          clear hb
          refine hK2012.out _ _ (⟨BB.out, (HB.out.cell (by exact hbw)).trans c1.out, (HB.out.cell (by exact hbw)).trans c2.out, (HB.out.cell (by exact hbw)).trans c3.out, (HB.out.cell (by exact hbw)).trans c4.out⟩) (fun hHeld2012 => ?_)
          clear hK2012 K2012
          try simp only [Act.put, List.setIfInBounds_toArray, List.set_cons_zero, List.set_cons_succ]
          refine wpAnyH_take (i := 12) (oi := { dst := some 49, op := Op.move (Operand.tmp 61), type := 34, pos := "law.go:54", after := _, guard := none }) (v := ?_) rfl (by kernel_rfl) (by kernel_rfl) (by kernel_rfl) (fun _ _ _ h => h) (Or.inl ⟨by rfl, ?_⟩) (by assumption) ?_
          rotate_left
          · (intro w hSw; (try dsimp only at hSw); go_simp; try with_reducible rfl)
          simp only [Act.put, List.setIfInBounds_toArray, List.set_cons_zero, List.set_cons_succ]
          refine wpAnyH_take (i := 13) (oi := { dst := some 62, op := Op.extract (Operand.tmp 49) 0, type := 25, pos := "law.go:54", after := _, guard := none }) (v := ?_) rfl (by kernel_rfl) (by kernel_rfl) (by kernel_rfl) (fun _ _ _ h => h) (Or.inl ⟨by rfl, ?_⟩) (by assumption) ?_
          rotate_left
          · (intro w hSw; (try dsimp only at hSw); go_simp; try with_reducible rfl)
          simp only [Act.put, List.setIfInBounds_toArray, List.set_cons_zero, List.set_cons_succ]
          refine wpAnyH_take (i := 14) (oi := { dst := some 63, op := Op.extract (Operand.tmp 49) 1, type := 3, pos := "law.go:54", after := _, guard := none }) (v := ?_) rfl (by kernel_rfl) (by kernel_rfl) (by kernel_rfl) (fun _ _ _ h => h) (Or.inl ⟨by rfl, ?_⟩) (by assumption) ?_
          rotate_left
          · (intro w hSw; (try dsimp only at hSw); go_simp; try with_reducible rfl)
          simp only [Act.put, List.setIfInBounds_toArray, List.set_cons_zero, List.set_cons_succ]
          refine wpAnyH_take (i := 15) (oi := { dst := some 64, op := Op.extract (Operand.tmp 49) 2, type := 3, pos := "law.go:54", after := _, guard := none }) (v := ?_) rfl (by kernel_rfl) (by kernel_rfl) (by kernel_rfl) (fun _ _ _ h => h) (Or.inl ⟨by rfl, ?_⟩) (by assumption) ?_
          rotate_left
          · (intro w hSw; (try dsimp only at hSw); go_simp; try with_reducible rfl)
          simp only [Act.put, List.setIfInBounds_toArray, List.set_cons_zero, List.set_cons_succ]
          refine wpAnyH_take (i := 16) (oi := { dst := some 65, op := Op.extract (Operand.tmp 49) 3, type := 29, pos := "law.go:54", after := _, guard := none }) (v := ?_) rfl (by kernel_rfl) (by kernel_rfl) (by kernel_rfl) (fun _ _ _ h => h) (Or.inl ⟨by rfl, ?_⟩) (by assumption) ?_
          rotate_left
          · (intro w hSw; (try dsimp only at hSw); go_simp; try with_reducible rfl)
          simp only [Act.put, List.setIfInBounds_toArray, List.set_cons_zero, List.set_cons_succ]
          refine wpAnyH_ready (rs := [17]) (by kernel_rfl) (by simp) (AllReadyH.cons (o := { dst := some 10, op := Op.alloc 25, type := 0, pos := "law.go:54", after := _, guard := none }) rfl (fun K2018 hK2018 => ?_) AllReadyH.nil)
          refine step_new rfl 25 rfl _ Try.zeroBf ?_
          intro v6 b h z
          have CB := hid (show BoxAt v6 v5.heap.size 25 #[.int .i64 0, .bool false, .slice none 0 0, .slice none 0 0] from b)
          have BB := hid (BB.out.belowAll h)
          have HI := hid (HI.out.below h)
          have HO := hid (HO.out.below h)
          have HC1 := hid (HC1.out.below h)
          have HU1 := hid (HU1.out.below h)
          have HB := hid (HB.out.trans (h.mono HB.out.size))
          have hsv6 : v5.heap.size + 1 ≤ v6.heap.size := by first | exact h.size | omega
          clear b h z
          refine hK2018.out _ _ (⟨BB.out, (HB.out.cell (by exact hbw)).trans c1.out, (HB.out.cell (by exact hbw)).trans c2.out, (HB.out.cell (by exact hbw)).trans c3.out, (HB.out.cell (by exact hbw)).trans c4.out⟩) (fun hHeld2018 => ?_)
          clear hK2018 K2018
          try simp only [Act.put, List.setIfInBounds_toArray, List.set_cons_zero, List.set_cons_succ]
          refine wpAnyH_ready (rs := [18]) (by kernel_rfl) (by simp) (AllReadyH.cons (o := { dst := none, op := Op.store 25 (Operand.tmp 10) (Operand.tmp 62), type := 0, pos := "law.go:54", after := _, guard := none }) rfl (fun K2019 hK2019 => ?_) AllReadyH.nil)
          refine step_store_whole rfl 25 _ _ rfl (v5.heap.size) rfl [.int .i64 D, .bool false, .slice x3.a x3.n x3.c, .slice u3.a u3.n u3.c] rfl _ _ CB.out rfl Try.infoBf (by simp [Value.oneCell']) ?_
          intro v7 b g z
          have hsv7 : v6.heap.size ≤ v7.heap.size := by omega
          have HI := hid (HI.out.put g CB.out (by decide))
          have HO := hid (HO.out.put g CB.out (by decide))
          have HC1 := hid (HC1.out.put g CB.out (by decide))
          have HU1 := hid (HU1.out.put g CB.out (by decide))
          have CB := hid (show BoxAt v7 (v5.heap.size) 25 #[.int .i64 D, .bool false, .slice x3.a x3.n x3.c, .slice u3.a u3.n u3.c] from b)
          have BB := hid (BB.out.grown g (fun e => by have := Option.some.inj e; omega))
          have HB := hid (HB.out.trans (grown_below g (by omega) (by omega)))
          clear b g z
          refine hK2019.out _ _ (⟨BB.out, (HB.out.cell (by exact hbw)).trans c1.out, (HB.out.cell (by exact hbw)).trans c2.out, (HB.out.cell (by exact hbw)).trans c3.out, (HB.out.cell (by exact hbw)).trans c4.out⟩) (fun hHeld2019 => ?_)
          clear hK2019 K2019
          try simp only [Act.put]
          refine wpAnyH_take (i := 19) (oi := { dst := some 11, op := Op.assign (Operand.tmp 63), type := 3, pos := "law.go:54", after := _, guard := none }) (v := ?_) rfl (by kernel_rfl) (by kernel_rfl) (by kernel_rfl) (fun _ _ _ h => h) (Or.inl ⟨by rfl, ?_⟩) (by assumption) ?_
          rotate_left
          · (intro w hSw; (try dsimp only at hSw); go_simp; try with_reducible rfl)
          simp only [Act.put, List.setIfInBounds_toArray, List.set_cons_zero, List.set_cons_succ]
          refine wpAnyH_take (i := 20) (oi := { dst := some 12, op := Op.assign (Operand.tmp 64), type := 3, pos := "law.go:54", after := _, guard := none }) (v := ?_) rfl (by kernel_rfl) (by kernel_rfl) (by kernel_rfl) (fun _ _ _ h => h) (Or.inl ⟨by rfl, ?_⟩) (by assumption) ?_
          rotate_left
          · (intro w hSw; (try dsimp only at hSw); go_simp; try with_reducible rfl)
          simp only [Act.put, List.setIfInBounds_toArray, List.set_cons_zero, List.set_cons_succ]
          refine wpAnyH_take (i := 21) (oi := { dst := some 13, op := Op.assign (Operand.tmp 65), type := 29, pos := "law.go:54", after := _, guard := none }) (v := ?_) rfl (by kernel_rfl) (by kernel_rfl) (by kernel_rfl) (fun _ _ _ h => h) (Or.inl ⟨by rfl, ?_⟩) (by assumption) ?_
          rotate_left
          · (intro w hSw; (try dsimp only at hSw); go_simp; try with_reducible rfl)
          simp only [Act.put, List.setIfInBounds_toArray, List.set_cons_zero, List.set_cons_succ]
          refine wpAnyH_done (by kernel_rfl) ?_ _
          clear hHeld hHeld2012 hHeld2018 hHeld2019
          by_cases hx0 : xs.length = 0
          · have HFE := hid (HFN.out hx0)
            have hC0 : (C == 0) = false := by rw [HFE.out.1]; cases my <;> rfl
            clear hx0 HFN HFY
            have FL3 := hid trivial
            go_wp2_with (first
              | (refine wpList_load_box rfl 25 _ rfl (v5.heap.size) rfl _ _ CB.out _ Try.underlying25 Try.infoBf ?_)
              | (have hfl := FL3.out
                 refine wpList_store_whole rfl 25 _ _ rfl rfl (v1.heap.size) rfl [.int .i64 D, .bool false, .slice x3.a x3.n x3.c, .slice u3.a u3.n u3.c] rfl _ _ BB.out rfl Try.infoBf (by simp [Value.oneCell']) ?_
                 intro v8 b g z
                 have hsv8 : v7.heap.size ≤ v8.heap.size := by omega
                 have HI := hid (HI.out.put g BB.out (by decide))
                 have HO := hid (HO.out.put g BB.out (by decide))
                 have HC1 := hid (HC1.out.put g BB.out (by decide))
                 have HU1 := hid (HU1.out.put g BB.out (by decide))
                 have BB := hid (show BoxAt v8 (v1.heap.size) 25 #[.int .i64 D, .bool false, .slice x3.a x3.n x3.c, .slice u3.a u3.n u3.c] from b)
                 have CB := hid (CB.out.grown g (fun e => by have := Option.some.inj e; omega))
                 have HB := hid (HB.out.trans (grown_below g (by omega) (by omega)))
                 clear b g z hfl FL3)
              | fail)
            go_roundw
            case rel => exact ⟨i + 1, V1, L1, LI, LO, x3, u3, si, so, by omega, by rfl, by rfl, by go_num, HFE.out.2, BB.out, HC1.out, HU1.out, HI.out, HO.out, AIO.out, HB.out⟩
            case measure => simp [intOf]; omega
          · have HFE := hid (HFY.out hx0)
            have hC0 : (C == 0) = true := by rw [HFE.out.1]; rfl
            clear hx0 HFN HFY
            have FL3 := hid trivial
            have FL4 := hid trivial
            have FL5 := hid trivial
            go_wp2_with (first
              | (have hfl := FL3.out
                 refine wpList_litI rfl (.tmp 69) rfl (TX) rfl ?_
                 intro v8 b h
                 have LB := hid (show BoxAt v8 v7.heap.size 3 #[.int .i64 (TX)] from b)
                 have BB := hid (BB.out.belowAll h)
                 have CB := hid (CB.out.belowAll h)
                 have HI := hid (HI.out.below h)
                 have HO := hid (HO.out.below h)
                 have HC1 := hid (HC1.out.below h)
                 have HU1 := hid (HU1.out.below h)
                 have HB := hid (HB.out.trans (h.mono HB.out.size))
                 have hsv8 : v7.heap.size ≤ v8.heap.size := by first | exact h.size | omega
                 clear b h hfl FL3)
              | (have hfl := FL4.out
                 at_builtin
                 refine app_at rfl (.tmp 68) (.tmp 70) rfl (w.heap.size) _ LO rfl HO.out _ [TX] rfl (Sees.box (ys := [TX]) LB.out (by simp)) (by have := HLO.out; have := HLI.out; have := HI60.out; simp; omega) (by omega) ?_
                 intro uu v9 ho g h hloc
                 obtain ⟨so2, rfl, -⟩ := ho.sl
                 have hsv9 : v8.heap.size ≤ v9.heap.size := g.size
                 have AXOn := hid (AXO.out.grown HC1.out hloc)
                 have AIOn := hid (AIO.out.grown HI.out hloc)
                 have HC1 := hid (HC1.out.kept AXO.out g)
                 have HI := hid (HI.out.kept AIO.out g)
                 have AXO := AXOn
                 have AIO := AIOn
                 have BB := hid (BB.out.grown g (OI.apart HO.out BB.out (by decide)))
                 have CB := hid (CB.out.grown g (OI.apart HO.out CB.out (by decide)))
                 have HU1 := hid (HU1.out.over HO.out g)
                 have HB := hid (HB.out.trans h)
                 have HO := hid ho
                 clear ho g h hloc AXOn AIOn LB
                 clear hfl FL4)
              | (refine wpList_load_box rfl 25 _ rfl (v5.heap.size) rfl _ _ CB.out _ Try.underlying25 Try.infoBf ?_)
              | (have hfl := FL5.out
                 refine wpList_store_whole rfl 25 _ _ rfl rfl (v1.heap.size) rfl [.int .i64 D, .bool false, .slice x3.a x3.n x3.c, .slice u3.a u3.n u3.c] rfl _ _ BB.out rfl Try.infoBf (by simp [Value.oneCell']) ?_
                 intro v10 b g z
                 have hsv10 : v9.heap.size ≤ v10.heap.size := by omega
                 have HI := hid (HI.out.put g BB.out (by decide))
                 have HO := hid (HO.out.put g BB.out (by decide))
                 have HC1 := hid (HC1.out.put g BB.out (by decide))
                 have HU1 := hid (HU1.out.put g BB.out (by decide))
                 have BB := hid (show BoxAt v10 (v1.heap.size) 25 #[.int .i64 D, .bool false, .slice x3.a x3.n x3.c, .slice u3.a u3.n u3.c] from b)
                 have CB := hid (CB.out.grown g (fun e => by have := Option.some.inj e; omega))
                 have HB := hid (HB.out.trans (grown_below g (by omega) (by omega)))
                 clear b g z hfl FL5)
              | fail)
            go_roundw
            case rel => exact ⟨i + 1, V1, L1, LI, (LO ++ [TX]), x3, u3, si, so2, by omega, by rfl, by rfl, by go_num, HFE.out.2, BB.out, HC1.out, HU1.out, HI.out, HO.out, AIO.out, HB.out⟩
            case measure => simp [intOf]; omega
        case' b2012_17 =>
          refine step_new rfl 25 rfl _ Try.zeroBf ?_
          intro v5 b h z
          have CB := hid (show BoxAt v5 v4.heap.size 25 #[.int .i64 0, .bool false, .slice none 0 0, .slice none 0 0] from b)
          have BB := hid (BB.out.belowAll h)
          have HC := hid (HC.out.below h)
          have HU := hid (HU.out.below h)
          have HI := hid (HI.out.below h)
          have HO := hid (HO.out.below h)
          have HB := hid (HB.out.trans (h.mono HB.out.size))
          have hsv5 : v4.heap.size + 1 ≤ v5.heap.size := by first | exact h.size | omega
          clear b h z
          refine hK2012.out _ _ (⟨BB.out, (HB.out.cell (by exact hbw)).trans c1.out, (HB.out.cell (by exact hbw)).trans c2.out, (HB.out.cell (by exact hbw)).trans c3.out, (HB.out.cell (by exact hbw)).trans c4.out⟩) (fun hHeld2012 => ?_)
          clear hK2012 K2012
          try simp only [Act.put, List.setIfInBounds_toArray, List.set_cons_zero, List.set_cons_succ]
          refine wpAnyH_ready (rs := [11]) (by kernel_rfl) (by simp) (AllReadyH.cons (o := { dst := some 61, op := Op.call { callee := Callee.value (Operand.func 13), args := #[Operand.tmp 50, Operand.tmp 55, Operand.tmp 60], argTypes := #[25, 27, 4] }, type := 34, pos := "law.go:54", after := _, guard := none }) rfl (fun K2023 hK2023 => ?_) AllReadyH.nil)
          have HBt := HB.out.size
          have HIL := hid (HI.out.lt)
          have HOL := hid (HO.out.lt)
          have HFN := hid (fun h => HFL.out.takeNo ⟨y0, y1, y2⟩ my h)
          have HFY := hid (fun h => HFL.out.takeYes ⟨y0, y1, y2⟩ my h)
          go_simp
          refine (take_any D false y0 y1 y2 my (vs := x) (s := u) (xs := xs) (l := T) HC.out.sees HU.out.sees (by have := HLO.out.2.1; have := HI60.out; omega) (by have := HLT.out; have := HI60.out; omega)).mono ?_
          rintro e v6 ⟨x3, u3, q3, rfl, hc, hu, hq, hb⟩
          have BB := hid (BB.out.belowAll hb)
          have CB := hid (CB.out.belowAll hb)
          have HC := hid (HC.out.below hb)
          have HU := hid (HU.out.below hb)
          have HI := hid (HI.out.below hb)
          have HO := hid (HO.out.below hb)
          have HB := hid (HB.out.trans (hb.mono HB.out.size))
          have hsv6 : v5.heap.size ≤ v6.heap.size := by first | exact hb.size | omega
          obtain ⟨C, hC⟩ : ∃ c, takeC xs my = c := ⟨_, rfl⟩
          obtain ⟨V1, hV1⟩ : ∃ c, takeV xs T = c := ⟨_, rfl⟩
          obtain ⟨L1, hL1⟩ : ∃ c, takeL false xs T ⟨y0, y1, y2⟩ my = c := ⟨_, rfl⟩
          obtain ⟨TX, hTX⟩ : ∃ c, takeX xs = c := ⟨_, rfl⟩
          simp only [hC, hV1, hL1, hTX] at HFN HFY
          rw [hC, hTX]
          rw [hV1] at hc
          rw [hL1] at hu
          have AXI := hid (show Apart x3.val si.val from fun b h1 h2 => by have := (HIL.out b h2).2; have := (hc.lt b h1).1; omega)
          have AXO := hid (show Apart x3.val so.val from fun b h1 h2 => by have := (HOL.out b h2).2; have := (hc.lt b h1).1; omega)
          have HC1 := hid (hc.mono HBt)
          have HU1 := hid (hu.mono HBt)
          clear hc hu hq HBt HC HU HIL HOL hC hV1 hL1 hTX
          clear hb
          refine hK2023.out _ _ (⟨BB.out, (HB.out.cell (by exact hbw)).trans c1.out, (HB.out.cell (by exact hbw)).trans c2.out, (HB.out.cell (by exact hbw)).trans c3.out, (HB.out.cell (by exact hbw)).trans c4.out⟩) (fun hHeld2023 => ?_)
          clear hK2023 K2023
          try simp only [Act.put, List.setIfInBounds_toArray, List.set_cons_zero, List.set_cons_succ]
          refine wpAnyH_take (i := 12) (oi := { dst := some 49, op := Op.move (Operand.tmp 61), type := 34, pos := "law.go:54", after := _, guard := none }) (v := ?_) rfl (by kernel_rfl) (by kernel_rfl) (by kernel_rfl) (fun _ _ _ h => h) (Or.inl ⟨by rfl, ?_⟩) (by assumption) ?_
          rotate_left
          · (intro w hSw; (try dsimp only at hSw); go_simp; try with_reducible rfl)
          simp only [Act.put, List.setIfInBounds_toArray, List.set_cons_zero, List.set_cons_succ]
          refine wpAnyH_take (i := 13) (oi := { dst := some 62, op := Op.extract (Operand.tmp 49) 0, type := 25, pos := "law.go:54", after := _, guard := none }) (v := ?_) rfl (by kernel_rfl) (by kernel_rfl) (by kernel_rfl) (fun _ _ _ h => h) (Or.inl ⟨by rfl, ?_⟩) (by assumption) ?_
          rotate_left
          · (intro w hSw; (try dsimp only at hSw); go_simp; try with_reducible rfl)
          simp only [Act.put, List.setIfInBounds_toArray, List.set_cons_zero, List.set_cons_succ]
          refine wpAnyH_take (i := 14) (oi := { dst := some 63, op := Op.extract (Operand.tmp 49) 1, type := 3, pos := "law.go:54", after := _, guard := none }) (v := ?_) rfl (by kernel_rfl) (by kernel_rfl) (by kernel_rfl) (fun _ _ _ h => h) (Or.inl ⟨by rfl, ?_⟩) (by assumption) ?_
          rotate_left
          · (intro w hSw; (try dsimp only at hSw); go_simp; try with_reducible rfl)
          simp only [Act.put, List.setIfInBounds_toArray, List.set_cons_zero, List.set_cons_succ]
          refine wpAnyH_take (i := 15) (oi := { dst := some 64, op := Op.extract (Operand.tmp 49) 2, type := 3, pos := "law.go:54", after := _, guard := none }) (v := ?_) rfl (by kernel_rfl) (by kernel_rfl) (by kernel_rfl) (fun _ _ _ h => h) (Or.inl ⟨by rfl, ?_⟩) (by assumption) ?_
          rotate_left
          · (intro w hSw; (try dsimp only at hSw); go_simp; try with_reducible rfl)
          simp only [Act.put, List.setIfInBounds_toArray, List.set_cons_zero, List.set_cons_succ]
          refine wpAnyH_take (i := 16) (oi := { dst := some 65, op := Op.extract (Operand.tmp 49) 3, type := 29, pos := "law.go:54", after := _, guard := none }) (v := ?_) rfl (by kernel_rfl) (by kernel_rfl) (by kernel_rfl) (fun _ _ _ h => h) (Or.inl ⟨by rfl, ?_⟩) (by assumption) ?_
          rotate_left
          · (intro w hSw; (try dsimp only at hSw); go_simp; try with_reducible rfl)
          simp only [Act.put, List.setIfInBounds_toArray, List.set_cons_zero, List.set_cons_succ]
          refine wpAnyH_ready (rs := [18]) (by kernel_rfl) (by simp) (AllReadyH.cons (o := { dst := none, op := Op.store 25 (Operand.tmp 10) (Operand.tmp 62), type := 0, pos := "law.go:54", after := _, guard := none }) rfl (fun K2029 hK2029 => ?_) AllReadyH.nil)
          refine step_store_whole rfl 25 _ _ rfl (v4.heap.size) rfl [.int .i64 D, .bool false, .slice x3.a x3.n x3.c, .slice u3.a u3.n u3.c] rfl _ _ CB.out rfl Try.infoBf (by simp [Value.oneCell']) ?_
          intro v7 b g z
          have hsv7 : v6.heap.size ≤ v7.heap.size := by omega
          have HI := hid (HI.out.put g CB.out (by decide))
          have HO := hid (HO.out.put g CB.out (by decide))
          have HC1 := hid (HC1.out.put g CB.out (by decide))
          have HU1 := hid (HU1.out.put g CB.out (by decide))
          have CB := hid (show BoxAt v7 (v4.heap.size) 25 #[.int .i64 D, .bool false, .slice x3.a x3.n x3.c, .slice u3.a u3.n u3.c] from b)
          have BB := hid (BB.out.grown g (fun e => by have := Option.some.inj e; omega))
          have HB := hid (HB.out.trans (grown_below g (by omega) (by omega)))
          clear b g z
          refine hK2029.out _ _ (⟨BB.out, (HB.out.cell (by exact hbw)).trans c1.out, (HB.out.cell (by exact hbw)).trans c2.out, (HB.out.cell (by exact hbw)).trans c3.out, (HB.out.cell (by exact hbw)).trans c4.out⟩) (fun hHeld2029 => ?_)
          clear hK2029 K2029
          try simp only [Act.put]
          refine wpAnyH_take (i := 19) (oi := { dst := some 11, op := Op.assign (Operand.tmp 63), type := 3, pos := "law.go:54", after := _, guard := none }) (v := ?_) rfl (by kernel_rfl) (by kernel_rfl) (by kernel_rfl) (fun _ _ _ h => h) (Or.inl ⟨by rfl, ?_⟩) (by assumption) ?_
          rotate_left
          · (intro w hSw; (try dsimp only at hSw); go_simp; try with_reducible rfl)
          simp only [Act.put, List.setIfInBounds_toArray, List.set_cons_zero, List.set_cons_succ]
          refine wpAnyH_take (i := 20) (oi := { dst := some 12, op := Op.assign (Operand.tmp 64), type := 3, pos := "law.go:54", after := _, guard := none }) (v := ?_) rfl (by kernel_rfl) (by kernel_rfl) (by kernel_rfl) (fun _ _ _ h => h) (Or.inl ⟨by rfl, ?_⟩) (by assumption) ?_
          rotate_left
          · (intro w hSw; (try dsimp only at hSw); go_simp; try with_reducible rfl)
          simp only [Act.put, List.setIfInBounds_toArray, List.set_cons_zero, List.set_cons_succ]
          refine wpAnyH_take (i := 21) (oi := { dst := some 13, op := Op.assign (Operand.tmp 65), type := 29, pos := "law.go:54", after := _, guard := none }) (v := ?_) rfl (by kernel_rfl) (by kernel_rfl) (by kernel_rfl) (fun _ _ _ h => h) (Or.inl ⟨by rfl, ?_⟩) (by assumption) ?_
          rotate_left
          · (intro w hSw; (try dsimp only at hSw); go_simp; try with_reducible rfl)
          simp only [Act.put, List.setIfInBounds_toArray, List.set_cons_zero, List.set_cons_succ]
          refine wpAnyH_done (by kernel_rfl) ?_ _
          clear hHeld hHeld2012 hHeld2023 hHeld2029
          by_cases hx0 : xs.length = 0
          · have HFE := hid (HFN.out hx0)
            have hC0 : (C == 0) = false := by rw [HFE.out.1]; cases my <;> rfl
            clear hx0 HFN HFY
            have FL3 := hid trivial
            go_wp2_with (first
              | (refine wpList_load_box rfl 25 _ rfl (v4.heap.size) rfl _ _ CB.out _ Try.underlying25 Try.infoBf ?_)
              | (have hfl := FL3.out
                 refine wpList_store_whole rfl 25 _ _ rfl rfl (v1.heap.size) rfl [.int .i64 D, .bool false, .slice x3.a x3.n x3.c, .slice u3.a u3.n u3.c] rfl _ _ BB.out rfl Try.infoBf (by simp [Value.oneCell']) ?_
                 intro v8 b g z
                 have hsv8 : v7.heap.size ≤ v8.heap.size := by omega
                 have HI := hid (HI.out.put g BB.out (by decide))
                 have HO := hid (HO.out.put g BB.out (by decide))
                 have HC1 := hid (HC1.out.put g BB.out (by decide))
                 have HU1 := hid (HU1.out.put g BB.out (by decide))
                 have BB := hid (show BoxAt v8 (v1.heap.size) 25 #[.int .i64 D, .bool false, .slice x3.a x3.n x3.c, .slice u3.a u3.n u3.c] from b)
                 have CB := hid (CB.out.grown g (fun e => by have := Option.some.inj e; omega))
                 have HB := hid (HB.out.trans (grown_below g (by omega) (by omega)))
                 clear b g z hfl FL3)
              | fail)
            go_roundw
            case rel => exact ⟨i + 1, V1, L1, LI, LO, x3, u3, si, so, by omega, by rfl, by rfl, by go_num, HFE.out.2, BB.out, HC1.out, HU1.out, HI.out, HO.out, AIO.out, HB.out⟩
            case measure => simp [intOf]; omega
          · have HFE := hid (HFY.out hx0)
            have hC0 : (C == 0) = true := by rw [HFE.out.1]; rfl
            clear hx0 HFN HFY
            have FL3 := hid trivial
            have FL4 := hid trivial
            have FL5 := hid trivial
            go_wp2_with (first
              | (have hfl := FL3.out
                 refine wpList_litI rfl (.tmp 69) rfl (TX) rfl ?_
                 intro v8 b h
                 have LB := hid (show BoxAt v8 v7.heap.size 3 #[.int .i64 (TX)] from b)
                 have BB := hid (BB.out.belowAll h)
                 have CB := hid (CB.out.belowAll h)
                 have HI := hid (HI.out.below h)
                 have HO := hid (HO.out.below h)
                 have HC1 := hid (HC1.out.below h)
                 have HU1 := hid (HU1.out.below h)
                 have HB := hid (HB.out.trans (h.mono HB.out.size))
                 have hsv8 : v7.heap.size ≤ v8.heap.size := by first | exact h.size | omega
                 clear b h hfl FL3)
              | (have hfl := FL4.out
                 at_builtin
                 refine app_at rfl (.tmp 68) (.tmp 70) rfl (w.heap.size) _ LO rfl HO.out _ [TX] rfl (Sees.box (ys := [TX]) LB.out (by simp)) (by have := HLO.out; have := HLI.out; have := HI60.out; simp; omega) (by omega) ?_
                 intro uu v9 ho g h hloc
                 obtain ⟨so2, rfl, -⟩ := ho.sl
                 have hsv9 : v8.heap.size ≤ v9.heap.size := g.size
                 have AXOn := hid (AXO.out.grown HC1.out hloc)
                 have AIOn := hid (AIO.out.grown HI.out hloc)
                 have HC1 := hid (HC1.out.kept AXO.out g)
                 have HI := hid (HI.out.kept AIO.out g)
                 have AXO := AXOn
                 have AIO := AIOn
                 have BB := hid (BB.out.grown g (OI.apart HO.out BB.out (by decide)))
                 have CB := hid (CB.out.grown g (OI.apart HO.out CB.out (by decide)))
                 have HU1 := hid (HU1.out.over HO.out g)
                 have HB := hid (HB.out.trans h)
                 have HO := hid ho
                 clear ho g h hloc AXOn AIOn LB
                 clear hfl FL4)
              | (refine wpList_load_box rfl 25 _ rfl (v4.heap.size) rfl _ _ CB.out _ Try.underlying25 Try.infoBf ?_)
              | (have hfl := FL5.out
                 refine wpList_store_whole rfl 25 _ _ rfl rfl (v1.heap.size) rfl [.int .i64 D, .bool false, .slice x3.a x3.n x3.c, .slice u3.a u3.n u3.c] rfl _ _ BB.out rfl Try.infoBf (by simp [Value.oneCell']) ?_
                 intro v10 b g z
                 have hsv10 : v9.heap.size ≤ v10.heap.size := by omega
                 have HI := hid (HI.out.put g BB.out (by decide))
                 have HO := hid (HO.out.put g BB.out (by decide))
                 have HC1 := hid (HC1.out.put g BB.out (by decide))
                 have HU1 := hid (HU1.out.put g BB.out (by decide))
                 have BB := hid (show BoxAt v10 (v1.heap.size) 25 #[.int .i64 D, .bool false, .slice x3.a x3.n x3.c, .slice u3.a u3.n u3.c] from b)
                 have CB := hid (CB.out.grown g (fun e => by have := Option.some.inj e; omega))
                 have HB := hid (HB.out.trans (grown_below g (by omega) (by omega)))
                 clear b g z hfl FL5)
              | fail)
            go_roundw
            case rel => exact ⟨i + 1, V1, L1, LI, (LO ++ [TX]), x3, u3, si, so2, by omega, by rfl, by rfl, by go_num, HFE.out.2, BB.out, HC1.out, HU1.out, HI.out, HO.out, AIO.out, HB.out⟩
            case measure => simp [intOf]; omega
    · have HEN := hid HFL.out.ends
      obtain ⟨sia, sin, sic⟩ := si
      obtain ⟨soa, son, soc⟩ := so
      have hin : sin = LI.length := HI.out.n
      have hon : son = LO.length := HO.out.n
      have hle : ¬ (sin : Int) < (son : Int) := by have := HEN.out.1; omega
      have hle2 : son ≤ sin := by have := HEN.out.1; omega
      have h60s : sin ≤ 60 := by have := HFL.out.li; omega
      have HIN := hid hin
      have HON := hid hon
      clear hin hon
      go_wp2_with fail
      go_loopw [18] (fun t wc => ∃ j : Nat, j ≤ son ∧ t = .int .i64 j ∧ Below wr.heap.size wr wc) (fun t _ => son - (intOf t).toNat)
      case atStart => exact ⟨0, by omega, rfl, Below.refl _ _⟩
      case round =>
        obtain ⟨j, hj, rfl, hbel⟩ := hrel
        have HBL := hid hbel
        clear hbel
        by_cases hjt : j < son
        · have HSI := hid (HI.out.sees.below HBL.out)
          have HSO := hid (HO.out.sees.below HBL.out)
          have HEJ := hid (HEN.out.2 j (by have := HON.out; omega))
          obtain ⟨a1, c1, h1, h2, h3, h4⟩ := HSI.out.form
          simp only [Sl.val, Value.slice.injEq] at h1
          obtain ⟨rfl, -, rfl⟩ := h1
          obtain ⟨a2, c2, k1, k2, k3, k4⟩ := HSO.out.form
          simp only [Sl.val, Value.slice.injEq] at k1
          obtain ⟨rfl, -, rfl⟩ := k1
          obtain ⟨b1, o1, rfl, hw1, hc1⟩ := h4 (by have := HIN.out; omega)
          obtain ⟨b2, o2, rfl, hw2, hc2⟩ := k4 (by have := HON.out; omega)
          have e1 := hc1 j (by have := HIN.out; omega)
          have e2 := hc2 j (by have := HON.out; omega)
          rw [HEJ.out] at e2
          obtain ⟨z, hz⟩ : ∃ z, LI.getD j 0 = z := ⟨_, rfl⟩
          rw [hz] at e1 e2
          clear hz hc1 hc2 h4 k4 h2 h3 k2 k3 HSI HSO HEJ
          have hzz : (z != z) = false := by simp
          have hjs : j < sin := by omega
          have HBR := hid (Below.refl wr.heap.size wr)
          go_wp2
          go_quiet (fail)
          go_wp2
          go_roundw
          case rel => exact ⟨j + 1, by omega, by go_num, below_drewB HBL.out nq⟩
          case measure => simp [intOf]; omega
        · go_wp2
          go_ret
          exact ⟨rfl, HB.out.trans (HBL.out.mono HB.out.size)⟩

end Go.Proofs.Ytehpmjaldghdiaa
