/-
  EventGoes: the walk.
-/
import Derived.Test.YtgnjnhfimagbpaaEvAwake
import Derived.Test.YtgnjnhfimagbpaaEvInts
import Derived.Test.YtgnjnhfimagbpaaOp16Open
import Derived.BigQuiet
namespace Go.Proofs.Ytgnjnhfimagbpaa
open Go.RowKit
set_option linter.unusedVariables false


theorem goes_at (T : List Wt) (j : Nat) (hj : j < T.length) : ((allP T 0 0).getD j Wk.zero) = ⟨(T.getD j Wt.zero).p, 0, 0⟩ ∧ (T.map Wt.p).getD j 0 = (T.getD j Wt.zero).p := by
  constructor
  · simp [allP, wakeW, List.getD, List.getElem?_eq_getElem hj]
  · simp [List.getD, List.getElem?_eq_getElem hj]
theorem goes_map (T : List Wt) (p r v : Int) : (addP T ⟨p, r, v⟩ false).map Wt.p = T.map Wt.p ++ [p] := by
  unfold addP putP
  simp


set_option maxRecDepth 100000 in
set_option maxHeartbeats 6400000 in
theorem walk_EventGoes (w : World) (v : Value) (l : List Opr) (hv : SeesOp w v l) (hf : ∀ r ∈ l, r.fit) :
    Calls Try.prog 4 #[v] w fun e w' => e = .returned (.bool true) ∧ Below w.heap.size w w' := by
  clear hf
  obtain ⟨al, cl, rfl, hl1, hl2, hlc⟩ := hv.form
  unfold maxLen at hl2
  obtain ⟨N, hN⟩ : ∃ n, l.length = n := ⟨_, rfl⟩
  rw [hN] at hl1 hlc ⊢
  have HLC := hid hlc
  clear hv hlc hN
  have HB := hid (Below.refl w.heap.size w)
  go_enter Try.func4, Try.ntmps4
  go_wp2_with fail
  refine (evawake_any _).mono ?_
  rintro e v1 ⟨rfl, hb⟩
  have HB := hid (HB.out.trans (hb.mono HB.out.size))
  have hsv1 : w.heap.size ≤ v1.heap.size := by first | exact hb.size | omega
  clear hb
  by_cases hgd0 : (60 : Int) < (N : Int)
  · go_wp2
    go_ret
    exact ⟨rfl, HB.out⟩
  have FL1 := hid trivial
  have FL2 := hid trivial
  go_wp2_with (first
    | (have hfl := FL1.out
       refine wpList_new rfl 24 rfl _ Try.zeroEv ?_
       intro v2 b h z
       have BB := hid (show BoxAt v2 v1.heap.size 24 #[.bool false, .slice none 0 0] from b)
       have HB := hid (HB.out.trans (h.mono HB.out.size))
       have hsv2 : v1.heap.size + 1 ≤ v2.heap.size := by first | exact h.size | omega
       clear b h z hfl FL1)
    | (have hfl := FL2.out
       refine wpList_store_whole rfl 24 _ _ rfl rfl (v1.heap.size) rfl [.bool false, .slice none 0 0] rfl _ _ BB.out rfl Try.infoEv (by simp [Value.oneCell']) ?_
       intro v3 b g z
       have hsv3 : v2.heap.size ≤ v3.heap.size := by omega
       have BB := hid (show BoxAt v3 (v1.heap.size) 24 #[.bool false, .slice none 0 0] from b)
       have HB := hid (HB.out.trans (grown_below g (by omega) (by omega)))
       clear b g z hfl FL2
       refine Hid.out ?_)
    | fail)
  refine hid ?_
  go_wp2_with fail
  go_loopw [5, 6] (fun vw t wc => ∃ (i K : Nat) (uu : Bool) (T : List Wt) (xa wa : Option Addr) (xc wk : Nat), i ≤ N ∧ vw = .slice wa K wk ∧ t = .int .i64 i ∧ (uu = true → T = []) ∧ T.length = K ∧ K ≤ i ∧ BoxAt wc (v1.heap.size) 24 #[.bool uu, .slice xa K xc] ∧ OWt wc w.heap.size (.slice xa K xc) T ∧ OI wc w.heap.size (.slice wa K wk) (T.map Wt.p) ∧ Below w.heap.size w wc) (fun _ t _ => N - (intOf t).toNat)
  case atStart => exact ⟨0, 0, false, [], none, none, 0, 0, by omega, rfl, rfl, (fun _ => rfl), rfl, by omega, BB.out, OWt.nil _ _, OI.nil _ _, HB.out⟩
  case round =>
    clear BB HB
    obtain ⟨i, K, uu, T, xa, wa, xc, wk, hi, rfl, rfl, hT, hTn, hKi, hbb, hou, hoi, hbel⟩ := hrel
    have BB := hid hbb
    have HU := hid hou
    have HW := hid hoi
    have HT := hid hT
    have HTN := hid hTn
    have HB := hid hbel
    have hsr : v1.heap.size + 1 ≤ wr.heap.size := hbb.lt
    have hsw : w.heap.size ≤ wr.heap.size := hbel.size
    have hkk : ((K : Int) != (K : Int)) = false := by simp
    clear hbb hou hoi hbel hT hTn
    by_cases hlt : i < N
    · have HI60 := hid (show i ≤ 60 by omega)
      have HM9 := hid (show N - (i + 1) < N - i by omega)
      obtain ⟨bb, off, rfl, hbw, hcell⟩ := HLC.out (by omega)
      have c0 := hid (hcell i hlt 0 (by decide))
      have c1 := hid (hcell i hlt 1 (by decide))
      have c2 := hid (hcell i hlt 2 (by decide))
      have c3 := hid (hcell i hlt 3 (by decide))
      have c4 := hid (hcell i hlt 4 (by decide))
      obtain ⟨y, hy⟩ : ∃ y, l.getD i Opr.zero = y := ⟨_, rfl⟩
      rw [hy] at c0 c1 c2 c3 c4
      clear hy hcell HLC
      obtain ⟨tk, my, y0, y1, y2⟩ := y
      simp only [Opr.cells, List.getD_cons_zero, List.getD_cons_succ, Nat.add_zero] at c0 c1 c2 c3 c4
      have d0 := (HB.out.cell (by exact hbw)).trans c0.out
      by_cases hk0 : tk = 0
      · subst hk0
        go_wp2_with (first
          | (refine wpList_load_box rfl 24 _ rfl (v1.heap.size) rfl _ _ BB.out _ Try.underlying24 Try.infoEv ?_)
          | fail)
        have HBs := HB.out.size
        refine (set_any uu (s := ⟨xa, K, xc⟩) (l := T) HU.out.sees (by have := HTN.out; have := HI60.out; omega)).mono ?_
        rintro e v4 ⟨q, rfl, hq, hb⟩
        have BB := hid (BB.out.belowAll hb)
        have HU := hid (HU.out.below hb)
        have HW := hid (HW.out.below hb)
        have HB := hid (HB.out.trans (hb.mono HB.out.size))
        have hsv4 : wr.heap.size ≤ v4.heap.size := by first | exact hb.size | omega
        have hqn := hq.n
        rw [show (allP T 0 0).length = K from by rw [← HTN.out]; simp [allP]] at hqn
        have HQ := hid (hq.mono HBs)
        obtain ⟨qa, qn, qc⟩ := q
        simp only at hqn
        have hqm := hqn.symm
        clear hq hqn HBs HU
        subst hqm
        simp only [Sl.val]
        clear hb
        have FL3 := hid trivial
        have FL4 := hid trivial
        go_wp2_with (first
          | (have hfl := FL3.out
             refine wpList_new rfl 24 rfl _ Try.zeroEv ?_
             intro v5 b h z
             have CB := hid (show BoxAt v5 v4.heap.size 24 #[.bool false, .slice none 0 0] from b)
             have BB := hid (BB.out.belowAll h)
             have HW := hid (HW.out.below h)
             have HQ := hid (HQ.out.below h)
             have HB := hid (HB.out.trans (h.mono HB.out.size))
             have hsv5 : v4.heap.size + 1 ≤ v5.heap.size := by first | exact h.size | omega
             clear b h z hfl FL3)
          | (have hfl := FL4.out
             refine wpList_store_whole rfl 24 _ _ rfl rfl (v4.heap.size) rfl [.bool true, .slice none 0 0] rfl _ _ CB.out rfl Try.infoEv (by simp [Value.oneCell']) ?_
             intro v6 b g z
             have hsv6 : v5.heap.size ≤ v6.heap.size := by omega
             have HW := hid (HW.out.put g CB.out (by decide))
             have HQ := hid (HQ.out.put g CB.out (by decide))
             have CB := hid (show BoxAt v6 (v4.heap.size) 24 #[.bool true, .slice none 0 0] from b)
             have BB := hid (BB.out.grown g (fun e => by have := Option.some.inj e; omega))
             have HB := hid (HB.out.trans (grown_below g (by omega) (by omega)))
             clear b g z hfl FL4
             refine Hid.out ?_)
          | fail)
        refine hid ?_
        have hgc : v1.heap.size + 1 ≤ v4.heap.size := by omega
        clear d0
        go_wp2_with fail
        go_loopw [9] (fun t wc => ∃ (j : Nat), j ≤ K ∧ t = .int .i64 j ∧ BoxAt wc (v1.heap.size) 24 #[.bool uu, .slice xa K xc] ∧ BoxAt wc (v4.heap.size) 24 #[.bool true, .slice none 0 0] ∧ Below w.heap.size w wc ∧ Below v6.heap.size v6 wc) (fun t _ => K - (intOf t).toNat)
        case atStart => exact ⟨0, by omega, rfl, BB.out, CB.out, HB.out, Below.refl _ _⟩
        case round =>
          clear BB CB HB hsr hsw
          obtain ⟨j, hj, rfl, hbb, hcb, hbel, hbv⟩ := hrel
          have BB := hid hbb
          have CB := hid hcb
          have HB := hid hbel
          have HBV := hid hbv
          have hsr : v1.heap.size + 1 ≤ wr.heap.size := hbb.lt
          have hsc : v4.heap.size + 1 ≤ wr.heap.size := hcb.lt
          have hsw : w.heap.size ≤ wr.heap.size := hbel.size
          clear hbb hcb hbel hbv
          by_cases hjt : j < K
          · have hja : j < T.length := by rw [HTN.out]; exact hjt
            have hgo := goes_at T j hja
            have hal : (allP T 0 0).length = K := by rw [← HTN.out]; simp [allP]
            have hml : (T.map Wt.p).length = K := by rw [← HTN.out]; simp
            obtain ⟨ya, yc, hyv, -, hy2, hyc⟩ := HQ.out.sees.form
            simp only [Sl.val, Value.slice.injEq] at hyv
            obtain ⟨rfl, -, rfl⟩ := hyv
            obtain ⟨qb, qo, rfl, hqb, hqc⟩ := hyc (by rw [hal]; omega)
            obtain ⟨za, zc, hzv, -, hz2, hzc⟩ := HW.out.sees.form
            simp only [Value.slice.injEq] at hzv
            obtain ⟨rfl, -, rfl⟩ := hzv
            obtain ⟨zb, zo, rfl, hzb, hzd⟩ := hzc (by rw [hml]; omega)
            have e0 := hid (hqc j (by rw [hal]; exact hjt) 0 (by decide))
            have e1 := hid (hqc j (by rw [hal]; exact hjt) 1 (by decide))
            have e2 := hid (hzd j (by rw [hml]; exact hjt))
            rw [hgo.1] at e0 e1
            rw [hgo.2] at e2
            obtain ⟨PP, hPP⟩ : ∃ z, (T.getD j Wt.zero).p = z := ⟨_, rfl⟩
            rw [hPP] at e0 e1 e2
            simp only [Wk.cells, List.getD_cons_zero, List.getD_cons_succ, Nat.add_zero] at e0 e1
            have hpp : (PP != PP) = false := by simp
            have hm9 : K - (j + 1) < K - j := by omega
            have hj60 : j ≤ 60 := by have := HI60.out; omega
            unfold maxLen at hy2 hz2
            clear hqc hyc hzc hzd hgo hal hml hPP hja
            go_wp2_with fail
            have BB := hid (BoxAt.drew BB.out)
            have CB := hid (BoxAt.drew CB.out)
            have HBV := hid (HBV.out.trans (((Below.refl wr.heap.size wr).drew).mono HBV.out.size))
            have HB := hid (HB.out.drew)
            have hsv7 : wr.heap.size ≤ wr.drew.heap.size := Nat.le_refl _
            refine wp_region_held_drew (S := (fun w' : World => w'.cell? ⟨qb, qo + j * 3, none⟩ = some (.int .i64 PP) ∧ w'.cell? ⟨qb, qo + j * 3 + 1, none⟩ = some (.int .i64 0) ∧ w'.cell? ⟨zb, zo + j, none⟩ = some (.int .i64 PP))) (by kernel_rfl) (⟨(HBV.out.cell (by exact hqb)).trans e0.out, (HBV.out.cell (by exact hqb)).trans e1.out, (HBV.out.cell (by exact hzb)).trans e2.out⟩) (fun hHeld => ?_)
            generalize wr.drew = v7 at *
            refine wpAnyH_take (i := 0) (oi := { dst := some 83, op := Op.move (Operand.tmp 8), type := 28, pos := "law.go:59", after := _, guard := none }) (v := ?_) rfl (by kernel_rfl) (by kernel_rfl) (by kernel_rfl) (fun _ _ _ h => h) (Or.inl ⟨by rfl, ?_⟩) (by assumption) ?_
            rotate_left
            · (intro w hSw; (try dsimp only at hSw); go_simp; try with_reducible rfl)
            simp only [Act.put, List.setIfInBounds_toArray, List.set_cons_zero, List.set_cons_succ]
            refine wpAnyH_take (i := 1) (oi := { dst := some 84, op := Op.move (Operand.tmp 9), type := 3, pos := "law.go:59", after := _, guard := none }) (v := ?_) rfl (by kernel_rfl) (by kernel_rfl) (by kernel_rfl) (fun _ _ _ h => h) (Or.inl ⟨by rfl, ?_⟩) (by assumption) ?_
            rotate_left
            · (intro w hSw; (try dsimp only at hSw); go_simp; try with_reducible rfl)
            simp only [Act.put, List.setIfInBounds_toArray, List.set_cons_zero, List.set_cons_succ]
            refine wpAnyH_take (i := 2) (oi := { dst := some 85, op := Op.indexAddr 28 (Operand.tmp 83) (Operand.tmp 84), type := 0, pos := "law.go:59", after := _, guard := none }) (v := ?_) rfl (by kernel_rfl) (by kernel_rfl) (by kernel_rfl) (fun _ _ _ h => h) (Or.inl ⟨by rfl, ?_⟩) (by assumption) ?_
            rotate_left
            · (intro w hSw; (try dsimp only at hSw); go_simp; try with_reducible rfl)
            simp only [Act.put, List.setIfInBounds_toArray, List.set_cons_zero, List.set_cons_succ]
            refine wpAnyH_take (i := 3) (oi := { dst := some 86, op := Op.fieldAddr 42 (Operand.tmp 85) 0, type := 0, pos := "law.go:59", after := _, guard := none }) (v := ?_) rfl (by kernel_rfl) (by kernel_rfl) (by kernel_rfl) (fun _ _ _ h => h) (Or.inl ⟨by rfl, ?_⟩) (by assumption) ?_
            rotate_left
            · (intro w hSw; (try dsimp only at hSw); go_simp; try with_reducible rfl)
            simp only [Act.put, List.setIfInBounds_toArray, List.set_cons_zero, List.set_cons_succ]
            refine wpAnyH_take (i := 4) (oi := { dst := some 87, op := Op.load 3 (Operand.tmp 86), type := 3, pos := "law.go:59", after := _, guard := none }) (v := ?_) rfl (by kernel_rfl) (by kernel_rfl) (by kernel_rfl) (fun _ _ _ h => h) (Or.inl ⟨by rfl, ?_⟩) (by assumption) ?_
            rotate_left
            · (intro W hSw; (try dsimp only at hSw); obtain ⟨hs0S, hs1S, hs2S⟩ := hSw; go_simp; try with_reducible rfl)
            simp only [Act.put, List.setIfInBounds_toArray, List.set_cons_zero, List.set_cons_succ]
            refine wpAnyH_take (i := 5) (oi := { dst := some 88, op := Op.move (Operand.tmp 5), type := 38, pos := "law.go:59", after := _, guard := none }) (v := ?_) rfl (by kernel_rfl) (by kernel_rfl) (by kernel_rfl) (fun _ _ _ h => h) (Or.inl ⟨by rfl, ?_⟩) (by assumption) ?_
            rotate_left
            · (intro w hSw; (try dsimp only at hSw); go_simp; try with_reducible rfl)
            simp only [Act.put, List.setIfInBounds_toArray, List.set_cons_zero, List.set_cons_succ]
            refine wpAnyH_take (i := 6) (oi := { dst := some 89, op := Op.move (Operand.tmp 9), type := 3, pos := "law.go:59", after := _, guard := none }) (v := ?_) rfl (by kernel_rfl) (by kernel_rfl) (by kernel_rfl) (fun _ _ _ h => h) (Or.inl ⟨by rfl, ?_⟩) (by assumption) ?_
            rotate_left
            · (intro w hSw; (try dsimp only at hSw); go_simp; try with_reducible rfl)
            simp only [Act.put, List.setIfInBounds_toArray, List.set_cons_zero, List.set_cons_succ]
            refine wpAnyH_take (i := 7) (oi := { dst := some 90, op := Op.indexAddr 38 (Operand.tmp 88) (Operand.tmp 89), type := 0, pos := "law.go:59", after := _, guard := none }) (v := ?_) rfl (by kernel_rfl) (by kernel_rfl) (by kernel_rfl) (fun _ _ _ h => h) (Or.inl ⟨by rfl, ?_⟩) (by assumption) ?_
            rotate_left
            · (intro w hSw; (try dsimp only at hSw); go_simp; try with_reducible rfl)
            simp only [Act.put, List.setIfInBounds_toArray, List.set_cons_zero, List.set_cons_succ]
            refine wpAnyH_take (i := 8) (oi := { dst := some 91, op := Op.load 3 (Operand.tmp 90), type := 3, pos := "law.go:59", after := _, guard := none }) (v := ?_) rfl (by kernel_rfl) (by kernel_rfl) (by kernel_rfl) (fun _ _ _ h => h) (Or.inl ⟨by rfl, ?_⟩) (by assumption) ?_
            rotate_left
            · (intro W hSw; (try dsimp only at hSw); obtain ⟨hs0S, hs1S, hs2S⟩ := hSw; go_simp; try with_reducible rfl)
            simp only [Act.put, List.setIfInBounds_toArray, List.set_cons_zero, List.set_cons_succ]
            refine wpAnyH_take (i := 9) (oi := { dst := some 92, op := Op.binOp BinOp.neq 3 (Operand.tmp 87) (Operand.tmp 91) 3, type := 4, pos := "law.go:59", after := _, guard := none }) (v := ?_) rfl (by kernel_rfl) (by kernel_rfl) (by kernel_rfl) (fun _ _ _ h => h) (Or.inl ⟨by rfl, ?_⟩) (by assumption) ?_
            rotate_left
            · (intro W hSw; (try dsimp only at hSw); obtain ⟨hs0S, hs1S, hs2S⟩ := hSw; go_simp; try with_reducible rfl)
            simp only [Act.put, List.setIfInBounds_toArray, List.set_cons_zero, List.set_cons_succ]
            refine wpAnyH_take (i := 10) (oi := { dst := some 93, op := Op.move (Operand.tmp 92), type := 4, pos := "law.go:59", after := _, guard := none }) (v := ?_) rfl (by kernel_rfl) (by kernel_rfl) (by kernel_rfl) (fun _ _ _ h => h) (Or.inl ⟨by rfl, ?_⟩) (by assumption) ?_
            rotate_left
            · (intro w hSw; (try dsimp only at hSw); go_simp; try with_reducible rfl)
            simp only [Act.put, List.setIfInBounds_toArray, List.set_cons_zero, List.set_cons_succ]
            refine wpAnyH_take (i := 11) (oi := { dst := some 94, op := Op.move (Operand.tmp 8), type := 28, pos := "law.go:59", after := _, guard := some (10, false) }) (v := ?_) rfl (by kernel_rfl) (by kernel_rfl) (by kernel_rfl) (fun _ _ _ h => h) (Or.inl ⟨by rfl, ?_⟩) (by assumption) ?_
            rotate_left
            · (intro w hSw; (try dsimp only at hSw); go_simp; try with_reducible rfl)
            simp only [Act.put, List.setIfInBounds_toArray, List.set_cons_zero, List.set_cons_succ]
            refine wpAnyH_take (i := 12) (oi := { dst := some 95, op := Op.move (Operand.tmp 9), type := 3, pos := "law.go:59", after := _, guard := some (10, false) }) (v := ?_) rfl (by kernel_rfl) (by kernel_rfl) (by kernel_rfl) (fun _ _ _ h => h) (Or.inl ⟨by rfl, ?_⟩) (by assumption) ?_
            rotate_left
            · (intro w hSw; (try dsimp only at hSw); go_simp; try with_reducible rfl)
            simp only [Act.put, List.setIfInBounds_toArray, List.set_cons_zero, List.set_cons_succ]
            refine wpAnyH_take (i := 13) (oi := { dst := some 96, op := Op.indexAddr 28 (Operand.tmp 94) (Operand.tmp 95), type := 0, pos := "law.go:59", after := _, guard := some (10, false) }) (v := ?_) rfl (by kernel_rfl) (by kernel_rfl) (by kernel_rfl) (fun _ _ _ h => h) (Or.inl ⟨by rfl, ?_⟩) (by assumption) ?_
            rotate_left
            · (intro w hSw; (try dsimp only at hSw); go_simp; try with_reducible rfl)
            simp only [Act.put, List.setIfInBounds_toArray, List.set_cons_zero, List.set_cons_succ]
            refine wpAnyH_take (i := 14) (oi := { dst := some 97, op := Op.fieldAddr 42 (Operand.tmp 96) 1, type := 0, pos := "law.go:59", after := _, guard := some (10, false) }) (v := ?_) rfl (by kernel_rfl) (by kernel_rfl) (by kernel_rfl) (fun _ _ _ h => h) (Or.inl ⟨by rfl, ?_⟩) (by assumption) ?_
            rotate_left
            · (intro w hSw; (try dsimp only at hSw); go_simp; try with_reducible rfl)
            simp only [Act.put, List.setIfInBounds_toArray, List.set_cons_zero, List.set_cons_succ]
            refine wpAnyH_take (i := 15) (oi := { dst := some 98, op := Op.load 3 (Operand.tmp 97), type := 3, pos := "law.go:59", after := _, guard := some (10, false) }) (v := ?_) rfl (by kernel_rfl) (by kernel_rfl) (by kernel_rfl) (fun _ _ _ h => h) (Or.inl ⟨by rfl, ?_⟩) (by assumption) ?_
            rotate_left
            · (intro W hSw; (try dsimp only at hSw); obtain ⟨hs0S, hs1S, hs2S⟩ := hSw; go_simp; try with_reducible rfl)
            simp only [Act.put, List.setIfInBounds_toArray, List.set_cons_zero, List.set_cons_succ]
            refine wpAnyH_take (i := 16) (oi := { dst := some 99, op := Op.binOp BinOp.neq 3 (Operand.tmp 98) (Operand.const (Value.int IntKind.i64 0)) 3, type := 4, pos := "law.go:59", after := _, guard := some (10, false) }) (v := ?_) rfl (by kernel_rfl) (by kernel_rfl) (by kernel_rfl) (fun _ _ _ h => h) (Or.inl ⟨by rfl, ?_⟩) (by assumption) ?_
            rotate_left
            · (intro W hSw; (try dsimp only at hSw); obtain ⟨hs0S, hs1S, hs2S⟩ := hSw; go_simp; try with_reducible rfl)
            simp only [Act.put, List.setIfInBounds_toArray, List.set_cons_zero, List.set_cons_succ]
            refine wpAnyH_take (i := 17) (oi := { dst := some 100, op := Op.pick (Operand.tmp 93) (Operand.const (Value.bool true)) (Operand.tmp 99), type := 4, pos := "law.go:59", after := _, guard := none }) (v := ?_) rfl (by kernel_rfl) (by kernel_rfl) (by kernel_rfl) (fun _ _ _ h => h) (Or.inl ⟨by rfl, ?_⟩) (by assumption) ?_
            rotate_left
            · (intro w hSw; (try dsimp only at hSw); go_simp; try with_reducible rfl)
            simp only [Act.put, List.setIfInBounds_toArray, List.set_cons_zero, List.set_cons_succ]
            refine wpAnyH_done (by kernel_rfl) ?_ _
            clear hHeld
            go_wp2
            go_roundw
            case rel => exact ⟨j + 1, by omega, by go_num, BB.out, CB.out, HB.out, HBV.out⟩
            case measure => simp [intOf]; omega
          · clear HBV HQ HW
            have FL5 := hid trivial
            go_wp2_with (first
              | (refine wpList_load_box rfl 24 _ rfl (v4.heap.size) rfl _ _ CB.out _ Try.underlying24 Try.infoEv ?_)
              | (have hfl := FL5.out
                 refine wpList_store_whole rfl 24 _ _ rfl rfl (v1.heap.size) rfl [.bool true, .slice none 0 0] rfl _ _ BB.out rfl Try.infoEv (by simp [Value.oneCell']) ?_
                 intro v7 b g z
                 have hsv7 : wr.heap.size ≤ v7.heap.size := by omega
                 have BB := hid (show BoxAt v7 (v1.heap.size) 24 #[.bool true, .slice none 0 0] from b)
                 have CB := hid (CB.out.grown g (fun e => by have := Option.some.inj e; omega))
                 have HB := hid (HB.out.trans (grown_below g (by omega) (by omega)))
                 have kBB0 : v7.cell? ⟨v1.heap.size, 0, none⟩ = some (.bool true) := (BoxAt.cell BB.out 0).trans rfl
                 have kBB1 : v7.cell? ⟨v1.heap.size, 1, none⟩ = some (.slice none 0 0) := (BoxAt.cell BB.out 1).trans rfl
                 clear b g z hfl FL5
                 refine Hid.out ?_)
              | fail)
            refine hid ?_
            clear kBB0 kBB1
            have kBB0 : v7.cell? ⟨v1.heap.size, 0, none⟩ = some (.bool true) := (BoxAt.cell BB.out 0).trans rfl
            have kBB1 : v7.cell? ⟨v1.heap.size, 1, none⟩ = some (.slice none 0 0) := (BoxAt.cell BB.out 1).trans rfl
            go_wp2_with fail
            go_roundw
            case rel => exact ⟨i + 1, 0, true, [], none, none, 0, 0, by omega, by rfl, by go_num, (fun _ => rfl), rfl, by omega, BB.out, OWt.nil _ _, OI.nil _ _, HB.out⟩
            case measure => simp [intOf]; omega
      have hkb0 : (tk == 0) = false := by simpa using hk0
      by_cases hk1 : tk = 1
      · subst hk1
        go_wp2_with (first
          | (refine wpList_load_box rfl 24 _ rfl (v1.heap.size) rfl _ _ BB.out _ Try.underlying24 Try.infoEv ?_)
          | fail)
        have HBs := HB.out.size
        refine (reset_any uu (s := ⟨xa, K, xc⟩) (l := T) HU.out.sees (by have := HTN.out; have := HI60.out; omega)).mono ?_
        rintro e v4 ⟨x1, rfl, hu, hb⟩
        have BB := hid (BB.out.belowAll hb)
        have HU := hid (HU.out.below hb)
        have HW := hid (HW.out.below hb)
        have HB := hid (HB.out.trans (hb.mono HB.out.size))
        have hsv4 : wr.heap.size ≤ v4.heap.size := by first | exact hb.size | omega
        have hun := hu.n
        rw [HTN.out] at hun
        have HU1 := hid (hu.mono HBs)
        obtain ⟨ya, yn, yc⟩ := x1
        simp only at hun
        have hum := hun.symm
        clear hu hun HBs HU
        subst hum
        clear hb
        have FL3 := hid trivial
        go_wp2_with (first
          | (have hfl := FL3.out
             refine wpList_store_whole rfl 24 _ _ rfl rfl (v1.heap.size) rfl [.bool false, .slice ya K yc] rfl _ _ BB.out rfl Try.infoEv (by simp [Value.oneCell']) ?_
             intro v5 b g z
             have hsv5 : v4.heap.size ≤ v5.heap.size := by omega
             have HW := hid (HW.out.put g BB.out (by decide))
             have HU1 := hid (HU1.out.put g BB.out (by decide))
             have BB := hid (show BoxAt v5 (v1.heap.size) 24 #[.bool false, .slice ya K yc] from b)
             have HB := hid (HB.out.trans (grown_below g (by omega) (by omega)))
             have kBB0 : v5.cell? ⟨v1.heap.size, 0, none⟩ = some (.bool false) := (BoxAt.cell BB.out 0).trans rfl
             have kBB1 : v5.cell? ⟨v1.heap.size, 1, none⟩ = some (.slice ya K yc) := (BoxAt.cell BB.out 1).trans rfl
             clear b g z hfl FL3
             refine Hid.out ?_)
          | fail)
        refine hid ?_
        clear kBB0 kBB1
        have kBB0 : v5.cell? ⟨v1.heap.size, 0, none⟩ = some (.bool false) := (BoxAt.cell BB.out 0).trans rfl
        have kBB1 : v5.cell? ⟨v1.heap.size, 1, none⟩ = some (.slice ya K yc) := (BoxAt.cell BB.out 1).trans rfl
        go_wp2_with fail
        go_roundw
        case rel => exact ⟨i + 1, K, false, T, ya, wa, yc, wk, by omega, by rfl, by go_num, (fun h => by cases h), HTN.out, by omega, BB.out, HU1.out, HW.out, HB.out⟩
        case measure => simp [intOf]; omega
      have hkb1 : (tk == 1) = false := by simpa using hk1
      rcases uu with _ | _
      · rcases my with _ | _
        · go_wp2_with fail
          have BB := hid (BoxAt.drew BB.out)
          have HU := hid (HU.out.below ((Below.refl wr.heap.size wr).drew))
          have HW := hid (HW.out.below ((Below.refl wr.heap.size wr).drew))
          have HB := hid (HB.out.drew)
          have hsv4 : wr.heap.size ≤ wr.drew.heap.size := Nat.le_refl _
          refine wp_region_held_drew (S := (fun w' : World => BoxAt w' (v1.heap.size) 24 #[.bool false, .slice xa K xc] ∧ w'.cell? ⟨bb, off + i * 5 + 1, none⟩ = some (.bool false) ∧ w'.cell? ⟨bb, off + i * 5 + 2, none⟩ = some (.int .i64 y0) ∧ w'.cell? ⟨bb, off + i * 5 + 3, none⟩ = some (.int .i64 y1) ∧ w'.cell? ⟨bb, off + i * 5 + 4, none⟩ = some (.int .i64 y2))) (by kernel_rfl) (⟨BB.out, (HB.out.cell (by exact hbw)).trans c1.out, (HB.out.cell (by exact hbw)).trans c2.out, (HB.out.cell (by exact hbw)).trans c3.out, (HB.out.cell (by exact hbw)).trans c4.out⟩) (fun hHeld => ?_)
          generalize wr.drew = v4 at *
          refine wpAnyH_take (i := 0) (oi := { dst := some 34, op := Op.load 24 (Operand.tmp 4), type := 24, pos := "law.go:68", after := _, guard := none }) (v := ?_) rfl (by kernel_rfl) (by kernel_rfl) (by kernel_rfl) (fun _ _ _ h => h) (Or.inl ⟨by rfl, ?_⟩) (by assumption) ?_
          rotate_left
          · (intro W hSw; (try dsimp only at hSw); obtain ⟨hs0S, hs1S, hs2S, hs3S, hs4S⟩ := hSw; have c0_0 : W.cell? ⟨v1.heap.size, 0, none⟩ = some (.bool false) := (BoxAt.cell hs0S 0).trans rfl; have c0_1 : W.cell? ⟨v1.heap.size, 1, none⟩ = some (.slice xa K xc) := (BoxAt.cell hs0S 1).trans rfl; clear hs0S; go_simp; try with_reducible rfl)
          simp only [Act.put, List.setIfInBounds_toArray, List.set_cons_zero, List.set_cons_succ]
          refine wpAnyH_take (i := 1) (oi := { dst := some 35, op := Op.move (Operand.tmp 0), type := 37, pos := "law.go:68", after := _, guard := none }) (v := ?_) rfl (by kernel_rfl) (by kernel_rfl) (by kernel_rfl) (fun _ _ _ h => h) (Or.inl ⟨by rfl, ?_⟩) (by assumption) ?_
          rotate_left
          · (intro w hSw; (try dsimp only at hSw); go_simp; try with_reducible rfl)
          simp only [Act.put, List.setIfInBounds_toArray, List.set_cons_zero, List.set_cons_succ]
          refine wpAnyH_take (i := 2) (oi := { dst := some 36, op := Op.move (Operand.tmp 6), type := 3, pos := "law.go:68", after := _, guard := none }) (v := ?_) rfl (by kernel_rfl) (by kernel_rfl) (by kernel_rfl) (fun _ _ _ h => h) (Or.inl ⟨by rfl, ?_⟩) (by assumption) ?_
          rotate_left
          · (intro w hSw; (try dsimp only at hSw); go_simp; try with_reducible rfl)
          simp only [Act.put, List.setIfInBounds_toArray, List.set_cons_zero, List.set_cons_succ]
          refine wpAnyH_take (i := 3) (oi := { dst := some 37, op := Op.indexAddr 37 (Operand.tmp 35) (Operand.tmp 36), type := 0, pos := "law.go:68", after := _, guard := none }) (v := ?_) rfl (by kernel_rfl) (by kernel_rfl) (by kernel_rfl) (fun _ _ _ h => h) (Or.inl ⟨by rfl, ?_⟩) (by assumption) ?_
          rotate_left
          · (intro w hSw; (try dsimp only at hSw); go_simp; try with_reducible rfl)
          simp only [Act.put, List.setIfInBounds_toArray, List.set_cons_zero, List.set_cons_succ]
          refine wpAnyH_take (i := 4) (oi := { dst := some 38, op := Op.fieldAddr 40 (Operand.tmp 37) 2, type := 0, pos := "law.go:68", after := _, guard := none }) (v := ?_) rfl (by kernel_rfl) (by kernel_rfl) (by kernel_rfl) (fun _ _ _ h => h) (Or.inl ⟨by rfl, ?_⟩) (by assumption) ?_
          rotate_left
          · (intro w hSw; (try dsimp only at hSw); go_simp; try with_reducible rfl)
          simp only [Act.put, List.setIfInBounds_toArray, List.set_cons_zero, List.set_cons_succ]
          refine wpAnyH_take (i := 5) (oi := { dst := some 39, op := Op.load 26 (Operand.tmp 38), type := 26, pos := "law.go:68", after := _, guard := none }) (v := ?_) rfl (by kernel_rfl) (by kernel_rfl) (by kernel_rfl) (fun _ _ _ h => h) (Or.inl ⟨by rfl, ?_⟩) (by assumption) ?_
          rotate_left
          · (intro W hSw; (try dsimp only at hSw); obtain ⟨hs0S, hs1S, hs2S, hs3S, hs4S⟩ := hSw; have c0_0 : W.cell? ⟨v1.heap.size, 0, none⟩ = some (.bool false) := (BoxAt.cell hs0S 0).trans rfl; have c0_1 : W.cell? ⟨v1.heap.size, 1, none⟩ = some (.slice xa K xc) := (BoxAt.cell hs0S 1).trans rfl; clear hs0S; go_simp; try with_reducible rfl)
          simp only [Act.put, List.setIfInBounds_toArray, List.set_cons_zero, List.set_cons_succ]
          refine wpAnyH_take (i := 6) (oi := { dst := some 40, op := Op.move (Operand.tmp 0), type := 37, pos := "law.go:68", after := _, guard := none }) (v := ?_) rfl (by kernel_rfl) (by kernel_rfl) (by kernel_rfl) (fun _ _ _ h => h) (Or.inl ⟨by rfl, ?_⟩) (by assumption) ?_
          rotate_left
          · (intro w hSw; (try dsimp only at hSw); go_simp; try with_reducible rfl)
          simp only [Act.put, List.setIfInBounds_toArray, List.set_cons_zero, List.set_cons_succ]
          refine wpAnyH_take (i := 7) (oi := { dst := some 41, op := Op.move (Operand.tmp 6), type := 3, pos := "law.go:68", after := _, guard := none }) (v := ?_) rfl (by kernel_rfl) (by kernel_rfl) (by kernel_rfl) (fun _ _ _ h => h) (Or.inl ⟨by rfl, ?_⟩) (by assumption) ?_
          rotate_left
          · (intro w hSw; (try dsimp only at hSw); go_simp; try with_reducible rfl)
          simp only [Act.put, List.setIfInBounds_toArray, List.set_cons_zero, List.set_cons_succ]
          refine wpAnyH_take (i := 8) (oi := { dst := some 42, op := Op.indexAddr 37 (Operand.tmp 40) (Operand.tmp 41), type := 0, pos := "law.go:68", after := _, guard := none }) (v := ?_) rfl (by kernel_rfl) (by kernel_rfl) (by kernel_rfl) (fun _ _ _ h => h) (Or.inl ⟨by rfl, ?_⟩) (by assumption) ?_
          rotate_left
          · (intro w hSw; (try dsimp only at hSw); go_simp; try with_reducible rfl)
          simp only [Act.put, List.setIfInBounds_toArray, List.set_cons_zero, List.set_cons_succ]
          refine wpAnyH_take (i := 9) (oi := { dst := some 43, op := Op.fieldAddr 40 (Operand.tmp 42) 1, type := 0, pos := "law.go:68", after := _, guard := none }) (v := ?_) rfl (by kernel_rfl) (by kernel_rfl) (by kernel_rfl) (fun _ _ _ h => h) (Or.inl ⟨by rfl, ?_⟩) (by assumption) ?_
          rotate_left
          · (intro w hSw; (try dsimp only at hSw); go_simp; try with_reducible rfl)
          simp only [Act.put, List.setIfInBounds_toArray, List.set_cons_zero, List.set_cons_succ]
          refine wpAnyH_take (i := 10) (oi := { dst := some 44, op := Op.load 4 (Operand.tmp 43), type := 4, pos := "law.go:68", after := _, guard := none }) (v := ?_) rfl (by kernel_rfl) (by kernel_rfl) (by kernel_rfl) (fun _ _ _ h => h) (Or.inl ⟨by rfl, ?_⟩) (by assumption) ?_
          rotate_left
          · (intro W hSw; (try dsimp only at hSw); obtain ⟨hs0S, hs1S, hs2S, hs3S, hs4S⟩ := hSw; have c0_0 : W.cell? ⟨v1.heap.size, 0, none⟩ = some (.bool false) := (BoxAt.cell hs0S 0).trans rfl; have c0_1 : W.cell? ⟨v1.heap.size, 1, none⟩ = some (.slice xa K xc) := (BoxAt.cell hs0S 1).trans rfl; clear hs0S; go_simp; try with_reducible rfl)
          simp only [Act.put, List.setIfInBounds_toArray, List.set_cons_zero, List.set_cons_succ]
          refine wpAnyH_ready (rs := [11, 15]) (by kernel_rfl) (by simp) (AllReadyH.cons (o := { dst := some 45, op := Op.call { callee := Callee.value (Operand.func 15), args := #[Operand.tmp 34, Operand.tmp 39, Operand.tmp 44], argTypes := #[24, 26, 4] }, type := 34, pos := "law.go:68", after := _, guard := none }) rfl (fun K2012 hK2012 => ?b2012_11) (AllReadyH.cons (o := { dst := some 10, op := Op.alloc 24, type := 0, pos := "law.go:68", after := _, guard := none }) rfl (fun K2012 hK2012 => ?b2012_15) AllReadyH.nil))
          case' b2012_11 =>
            have HBs := HB.out.size
            go_simp
            refine (await_any false y0 y1 y2 false (s := ⟨xa, K, xc⟩) (l := T) HU.out.sees (by have := HTN.out; have := HI60.out; omega)).mono ?_
            rintro e v5 ⟨x1, rfl, hu, hb⟩
            have BB := hid (BB.out.belowAll hb)
            have HU := hid (HU.out.below hb)
            have HW := hid (HW.out.below hb)
            have HB := hid (HB.out.trans (hb.mono HB.out.size))
            have hsv5 : v4.heap.size ≤ v5.heap.size := by first | exact hb.size | omega
            rw [show awC false false = 2 from rfl]
            rw [show awL false false T ⟨y0, y1, y2⟩ = T from rfl] at hu
            have hun := hu.n
            rw [HTN.out] at hun
            have HU1 := hid (hu.mono HBs)
            obtain ⟨ya, yn, yc⟩ := x1
            simp only at hun
            have hum : K = yn := hun.symm
            clear hu hun HBs HU
            subst hum
            clear hb
            refine hK2012.out _ _ (⟨BB.out, (HB.out.cell (by exact hbw)).trans c1.out, (HB.out.cell (by exact hbw)).trans c2.out, (HB.out.cell (by exact hbw)).trans c3.out, (HB.out.cell (by exact hbw)).trans c4.out⟩) (fun hHeld2012 => ?_)
            clear hK2012 K2012
            try simp only [Act.put, List.setIfInBounds_toArray, List.set_cons_zero, List.set_cons_succ]
            refine wpAnyH_take (i := 12) (oi := { dst := some 33, op := Op.move (Operand.tmp 45), type := 34, pos := "law.go:68", after := _, guard := none }) (v := ?_) rfl (by kernel_rfl) (by kernel_rfl) (by kernel_rfl) (fun _ _ _ h => h) (Or.inl ⟨by rfl, ?_⟩) (by assumption) ?_
            rotate_left
            · (intro w hSw; (try dsimp only at hSw); go_simp; try with_reducible rfl)
            simp only [Act.put, List.setIfInBounds_toArray, List.set_cons_zero, List.set_cons_succ]
            refine wpAnyH_take (i := 13) (oi := { dst := some 46, op := Op.extract (Operand.tmp 33) 0, type := 24, pos := "law.go:68", after := _, guard := none }) (v := ?_) rfl (by kernel_rfl) (by kernel_rfl) (by kernel_rfl) (fun _ _ _ h => h) (Or.inl ⟨by rfl, ?_⟩) (by assumption) ?_
            rotate_left
            · (intro w hSw; (try dsimp only at hSw); go_simp; try with_reducible rfl)
            simp only [Act.put, List.setIfInBounds_toArray, List.set_cons_zero, List.set_cons_succ]
            refine wpAnyH_take (i := 14) (oi := { dst := some 47, op := Op.extract (Operand.tmp 33) 1, type := 3, pos := "law.go:68", after := _, guard := none }) (v := ?_) rfl (by kernel_rfl) (by kernel_rfl) (by kernel_rfl) (fun _ _ _ h => h) (Or.inl ⟨by rfl, ?_⟩) (by assumption) ?_
            rotate_left
            · (intro w hSw; (try dsimp only at hSw); go_simp; try with_reducible rfl)
            simp only [Act.put, List.setIfInBounds_toArray, List.set_cons_zero, List.set_cons_succ]
            refine wpAnyH_ready (rs := [15]) (by kernel_rfl) (by simp) (AllReadyH.cons (o := { dst := some 10, op := Op.alloc 24, type := 0, pos := "law.go:68", after := _, guard := none }) rfl (fun K2016 hK2016 => ?_) AllReadyH.nil)
            refine step_new rfl 24 rfl _ Try.zeroEv ?_
            intro v6 b h z
            have CB := hid (show BoxAt v6 v5.heap.size 24 #[.bool false, .slice none 0 0] from b)
            have BB := hid (BB.out.belowAll h)
            have HW := hid (HW.out.below h)
            have HU1 := hid (HU1.out.below h)
            have HB := hid (HB.out.trans (h.mono HB.out.size))
            have hsv6 : v5.heap.size + 1 ≤ v6.heap.size := by first | exact h.size | omega
            clear b h z
            refine hK2016.out _ _ (⟨BB.out, (HB.out.cell (by exact hbw)).trans c1.out, (HB.out.cell (by exact hbw)).trans c2.out, (HB.out.cell (by exact hbw)).trans c3.out, (HB.out.cell (by exact hbw)).trans c4.out⟩) (fun hHeld2016 => ?_)
            clear hK2016 K2016
            try simp only [Act.put, List.setIfInBounds_toArray, List.set_cons_zero, List.set_cons_succ]
            refine wpAnyH_ready (rs := [16]) (by kernel_rfl) (by simp) (AllReadyH.cons (o := { dst := none, op := Op.store 24 (Operand.tmp 10) (Operand.tmp 46), type := 0, pos := "law.go:68", after := _, guard := none }) rfl (fun K2017 hK2017 => ?_) AllReadyH.nil)
            refine step_store_whole rfl 24 _ _ rfl (v5.heap.size) rfl [.bool false, .slice ya K yc] rfl _ _ CB.out rfl Try.infoEv (by simp [Value.oneCell']) ?_
            intro v7 b g z
            have hsv7 : v6.heap.size ≤ v7.heap.size := by omega
            have HW := hid (HW.out.put g CB.out (by decide))
            have HU1 := hid (HU1.out.put g CB.out (by decide))
            have CB := hid (show BoxAt v7 (v5.heap.size) 24 #[.bool false, .slice ya K yc] from b)
            have BB := hid (BB.out.grown g (fun e => by have := Option.some.inj e; omega))
            have HB := hid (HB.out.trans (grown_below g (by omega) (by omega)))
            clear b g z
            refine hK2017.out _ _ (⟨BB.out, (HB.out.cell (by exact hbw)).trans c1.out, (HB.out.cell (by exact hbw)).trans c2.out, (HB.out.cell (by exact hbw)).trans c3.out, (HB.out.cell (by exact hbw)).trans c4.out⟩) (fun hHeld2017 => ?_)
            clear hK2017 K2017
            try simp only [Act.put]
            refine wpAnyH_take (i := 17) (oi := { dst := some 11, op := Op.assign (Operand.tmp 47), type := 3, pos := "law.go:68", after := _, guard := none }) (v := ?_) rfl (by kernel_rfl) (by kernel_rfl) (by kernel_rfl) (fun _ _ _ h => h) (Or.inl ⟨by rfl, ?_⟩) (by assumption) ?_
            rotate_left
            · (intro w hSw; (try dsimp only at hSw); go_simp; try with_reducible rfl)
            simp only [Act.put, List.setIfInBounds_toArray, List.set_cons_zero, List.set_cons_succ]
            refine wpAnyH_done (by kernel_rfl) ?_ _
            clear hHeld hHeld2012 hHeld2016 hHeld2017
            have kBB0 : v7.cell? ⟨v1.heap.size, 0, none⟩ = some (.bool false) := (BoxAt.cell BB.out 0).trans rfl
            have kBB1 : v7.cell? ⟨v1.heap.size, 1, none⟩ = some (.slice xa K xc) := (BoxAt.cell BB.out 1).trans rfl
            have FL3 := hid trivial
            go_wp2_with (first
              | (refine wpList_load_box rfl 24 _ rfl (v5.heap.size) rfl _ _ CB.out _ Try.underlying24 Try.infoEv ?_)
              | (have hfl := FL3.out
                 refine wpList_store_whole rfl 24 _ _ rfl rfl (v1.heap.size) rfl [.bool false, .slice ya K yc] rfl _ _ BB.out rfl Try.infoEv (by simp [Value.oneCell']) ?_
                 intro v8 b g z
                 have hsv8 : v7.heap.size ≤ v8.heap.size := by omega
                 have HW := hid (HW.out.put g BB.out (by decide))
                 have HU1 := hid (HU1.out.put g BB.out (by decide))
                 have BB := hid (show BoxAt v8 (v1.heap.size) 24 #[.bool false, .slice ya K yc] from b)
                 have CB := hid (CB.out.grown g (fun e => by have := Option.some.inj e; omega))
                 have HB := hid (HB.out.trans (grown_below g (by omega) (by omega)))
                 clear kBB0 kBB1
                 have kBB0 : v8.cell? ⟨v1.heap.size, 0, none⟩ = some (.bool false) := (BoxAt.cell BB.out 0).trans rfl
                 have kBB1 : v8.cell? ⟨v1.heap.size, 1, none⟩ = some (.slice ya K yc) := (BoxAt.cell BB.out 1).trans rfl
                 clear b g z hfl FL3
                 refine Hid.out ?_)
              | fail)
            refine hid ?_
            clear kBB0 kBB1
            have kBB0 : v8.cell? ⟨v1.heap.size, 0, none⟩ = some (.bool false) := (BoxAt.cell BB.out 0).trans rfl
            have kBB1 : v8.cell? ⟨v1.heap.size, 1, none⟩ = some (.slice ya K yc) := (BoxAt.cell BB.out 1).trans rfl
            go_wp2_with fail
            go_roundw
            case rel => exact ⟨i + 1, K, false, T, ya, wa, yc, wk, by omega, by rfl, by go_num, (fun h => by cases h), HTN.out, by omega, BB.out, HU1.out, HW.out, HB.out⟩
            case measure => simp [intOf]; omega
          case' b2012_15 =>
            refine step_new rfl 24 rfl _ Try.zeroEv ?_
            intro v5 b h z
            have CB := hid (show BoxAt v5 v4.heap.size 24 #[.bool false, .slice none 0 0] from b)
            have BB := hid (BB.out.belowAll h)
            have HU := hid (HU.out.below h)
            have HW := hid (HW.out.below h)
            have HB := hid (HB.out.trans (h.mono HB.out.size))
            have hsv5 : v4.heap.size + 1 ≤ v5.heap.size := by first | exact h.size | omega
            clear b h z
            refine hK2012.out _ _ (⟨BB.out, (HB.out.cell (by exact hbw)).trans c1.out, (HB.out.cell (by exact hbw)).trans c2.out, (HB.out.cell (by exact hbw)).trans c3.out, (HB.out.cell (by exact hbw)).trans c4.out⟩) (fun hHeld2012 => ?_)
            clear hK2012 K2012
            try simp only [Act.put, List.setIfInBounds_toArray, List.set_cons_zero, List.set_cons_succ]
            refine wpAnyH_ready (rs := [11]) (by kernel_rfl) (by simp) (AllReadyH.cons (o := { dst := some 45, op := Op.call { callee := Callee.value (Operand.func 15), args := #[Operand.tmp 34, Operand.tmp 39, Operand.tmp 44], argTypes := #[24, 26, 4] }, type := 34, pos := "law.go:68", after := _, guard := none }) rfl (fun K2019 hK2019 => ?_) AllReadyH.nil)
            have HBs := HB.out.size
            go_simp
            refine (await_any false y0 y1 y2 false (s := ⟨xa, K, xc⟩) (l := T) HU.out.sees (by have := HTN.out; have := HI60.out; omega)).mono ?_
            rintro e v6 ⟨x1, rfl, hu, hb⟩
            have BB := hid (BB.out.belowAll hb)
            have CB := hid (CB.out.belowAll hb)
            have HU := hid (HU.out.below hb)
            have HW := hid (HW.out.below hb)
            have HB := hid (HB.out.trans (hb.mono HB.out.size))
            have hsv6 : v5.heap.size ≤ v6.heap.size := by first | exact hb.size | omega
            rw [show awC false false = 2 from rfl]
            rw [show awL false false T ⟨y0, y1, y2⟩ = T from rfl] at hu
            have hun := hu.n
            rw [HTN.out] at hun
            have HU1 := hid (hu.mono HBs)
            obtain ⟨ya, yn, yc⟩ := x1
            simp only at hun
            have hum : K = yn := hun.symm
            clear hu hun HBs HU
            subst hum
            clear hb
            refine hK2019.out _ _ (⟨BB.out, (HB.out.cell (by exact hbw)).trans c1.out, (HB.out.cell (by exact hbw)).trans c2.out, (HB.out.cell (by exact hbw)).trans c3.out, (HB.out.cell (by exact hbw)).trans c4.out⟩) (fun hHeld2019 => ?_)
            clear hK2019 K2019
            try simp only [Act.put, List.setIfInBounds_toArray, List.set_cons_zero, List.set_cons_succ]
            refine wpAnyH_take (i := 12) (oi := { dst := some 33, op := Op.move (Operand.tmp 45), type := 34, pos := "law.go:68", after := _, guard := none }) (v := ?_) rfl (by kernel_rfl) (by kernel_rfl) (by kernel_rfl) (fun _ _ _ h => h) (Or.inl ⟨by rfl, ?_⟩) (by assumption) ?_
            rotate_left
            · (intro w hSw; (try dsimp only at hSw); go_simp; try with_reducible rfl)
            simp only [Act.put, List.setIfInBounds_toArray, List.set_cons_zero, List.set_cons_succ]
            refine wpAnyH_take (i := 13) (oi := { dst := some 46, op := Op.extract (Operand.tmp 33) 0, type := 24, pos := "law.go:68", after := _, guard := none }) (v := ?_) rfl (by kernel_rfl) (by kernel_rfl) (by kernel_rfl) (fun _ _ _ h => h) (Or.inl ⟨by rfl, ?_⟩) (by assumption) ?_
            rotate_left
            · (intro w hSw; (try dsimp only at hSw); go_simp; try with_reducible rfl)
            simp only [Act.put, List.setIfInBounds_toArray, List.set_cons_zero, List.set_cons_succ]
            refine wpAnyH_take (i := 14) (oi := { dst := some 47, op := Op.extract (Operand.tmp 33) 1, type := 3, pos := "law.go:68", after := _, guard := none }) (v := ?_) rfl (by kernel_rfl) (by kernel_rfl) (by kernel_rfl) (fun _ _ _ h => h) (Or.inl ⟨by rfl, ?_⟩) (by assumption) ?_
            rotate_left
            · (intro w hSw; (try dsimp only at hSw); go_simp; try with_reducible rfl)
            simp only [Act.put, List.setIfInBounds_toArray, List.set_cons_zero, List.set_cons_succ]
            refine wpAnyH_ready (rs := [16]) (by kernel_rfl) (by simp) (AllReadyH.cons (o := { dst := none, op := Op.store 24 (Operand.tmp 10) (Operand.tmp 46), type := 0, pos := "law.go:68", after := _, guard := none }) rfl (fun K2023 hK2023 => ?_) AllReadyH.nil)
            refine step_store_whole rfl 24 _ _ rfl (v4.heap.size) rfl [.bool false, .slice ya K yc] rfl _ _ CB.out rfl Try.infoEv (by simp [Value.oneCell']) ?_
            intro v7 b g z
            have hsv7 : v6.heap.size ≤ v7.heap.size := by omega
            have HW := hid (HW.out.put g CB.out (by decide))
            have HU1 := hid (HU1.out.put g CB.out (by decide))
            have CB := hid (show BoxAt v7 (v4.heap.size) 24 #[.bool false, .slice ya K yc] from b)
            have BB := hid (BB.out.grown g (fun e => by have := Option.some.inj e; omega))
            have HB := hid (HB.out.trans (grown_below g (by omega) (by omega)))
            clear b g z
            refine hK2023.out _ _ (⟨BB.out, (HB.out.cell (by exact hbw)).trans c1.out, (HB.out.cell (by exact hbw)).trans c2.out, (HB.out.cell (by exact hbw)).trans c3.out, (HB.out.cell (by exact hbw)).trans c4.out⟩) (fun hHeld2023 => ?_)
            clear hK2023 K2023
            try simp only [Act.put]
            refine wpAnyH_take (i := 17) (oi := { dst := some 11, op := Op.assign (Operand.tmp 47), type := 3, pos := "law.go:68", after := _, guard := none }) (v := ?_) rfl (by kernel_rfl) (by kernel_rfl) (by kernel_rfl) (fun _ _ _ h => h) (Or.inl ⟨by rfl, ?_⟩) (by assumption) ?_
            rotate_left
            · (intro w hSw; (try dsimp only at hSw); go_simp; try with_reducible rfl)
            simp only [Act.put, List.setIfInBounds_toArray, List.set_cons_zero, List.set_cons_succ]
            refine wpAnyH_done (by kernel_rfl) ?_ _
            clear hHeld hHeld2012 hHeld2019 hHeld2023
            have kBB0 : v7.cell? ⟨v1.heap.size, 0, none⟩ = some (.bool false) := (BoxAt.cell BB.out 0).trans rfl
            have kBB1 : v7.cell? ⟨v1.heap.size, 1, none⟩ = some (.slice xa K xc) := (BoxAt.cell BB.out 1).trans rfl
            have FL3 := hid trivial
            go_wp2_with (first
              | (refine wpList_load_box rfl 24 _ rfl (v4.heap.size) rfl _ _ CB.out _ Try.underlying24 Try.infoEv ?_)
              | (have hfl := FL3.out
                 refine wpList_store_whole rfl 24 _ _ rfl rfl (v1.heap.size) rfl [.bool false, .slice ya K yc] rfl _ _ BB.out rfl Try.infoEv (by simp [Value.oneCell']) ?_
                 intro v8 b g z
                 have hsv8 : v7.heap.size ≤ v8.heap.size := by omega
                 have HW := hid (HW.out.put g BB.out (by decide))
                 have HU1 := hid (HU1.out.put g BB.out (by decide))
                 have BB := hid (show BoxAt v8 (v1.heap.size) 24 #[.bool false, .slice ya K yc] from b)
                 have CB := hid (CB.out.grown g (fun e => by have := Option.some.inj e; omega))
                 have HB := hid (HB.out.trans (grown_below g (by omega) (by omega)))
                 clear kBB0 kBB1
                 have kBB0 : v8.cell? ⟨v1.heap.size, 0, none⟩ = some (.bool false) := (BoxAt.cell BB.out 0).trans rfl
                 have kBB1 : v8.cell? ⟨v1.heap.size, 1, none⟩ = some (.slice ya K yc) := (BoxAt.cell BB.out 1).trans rfl
                 clear b g z hfl FL3
                 refine Hid.out ?_)
              | fail)
            refine hid ?_
            clear kBB0 kBB1
            have kBB0 : v8.cell? ⟨v1.heap.size, 0, none⟩ = some (.bool false) := (BoxAt.cell BB.out 0).trans rfl
            have kBB1 : v8.cell? ⟨v1.heap.size, 1, none⟩ = some (.slice ya K yc) := (BoxAt.cell BB.out 1).trans rfl
            go_wp2_with fail
            go_roundw
            case rel => exact ⟨i + 1, K, false, T, ya, wa, yc, wk, by omega, by rfl, by go_num, (fun h => by cases h), HTN.out, by omega, BB.out, HU1.out, HW.out, HB.out⟩
            case measure => simp [intOf]; omega
        · obtain ⟨K1, hK1⟩ : ∃ n, K + 1 = n := ⟨_, rfl⟩
          have hkk1 : ((K1 : Int) != (K1 : Int)) = false := by simp
          go_wp2_with fail
          have BB := hid (BoxAt.drew BB.out)
          have HU := hid (HU.out.below ((Below.refl wr.heap.size wr).drew))
          have HW := hid (HW.out.below ((Below.refl wr.heap.size wr).drew))
          have HB := hid (HB.out.drew)
          have hsv4 : wr.heap.size ≤ wr.drew.heap.size := Nat.le_refl _
          refine wp_region_held_drew (S := (fun w' : World => BoxAt w' (v1.heap.size) 24 #[.bool false, .slice xa K xc] ∧ w'.cell? ⟨bb, off + i * 5 + 1, none⟩ = some (.bool true) ∧ w'.cell? ⟨bb, off + i * 5 + 2, none⟩ = some (.int .i64 y0) ∧ w'.cell? ⟨bb, off + i * 5 + 3, none⟩ = some (.int .i64 y1) ∧ w'.cell? ⟨bb, off + i * 5 + 4, none⟩ = some (.int .i64 y2))) (by kernel_rfl) (⟨BB.out, (HB.out.cell (by exact hbw)).trans c1.out, (HB.out.cell (by exact hbw)).trans c2.out, (HB.out.cell (by exact hbw)).trans c3.out, (HB.out.cell (by exact hbw)).trans c4.out⟩) (fun hHeld => ?_)
          generalize wr.drew = v4 at *
          refine wpAnyH_take (i := 0) (oi := { dst := some 34, op := Op.load 24 (Operand.tmp 4), type := 24, pos := "law.go:68", after := _, guard := none }) (v := ?_) rfl (by kernel_rfl) (by kernel_rfl) (by kernel_rfl) (fun _ _ _ h => h) (Or.inl ⟨by rfl, ?_⟩) (by assumption) ?_
          rotate_left
          · (intro W hSw; (try dsimp only at hSw); obtain ⟨hs0S, hs1S, hs2S, hs3S, hs4S⟩ := hSw; have c0_0 : W.cell? ⟨v1.heap.size, 0, none⟩ = some (.bool false) := (BoxAt.cell hs0S 0).trans rfl; have c0_1 : W.cell? ⟨v1.heap.size, 1, none⟩ = some (.slice xa K xc) := (BoxAt.cell hs0S 1).trans rfl; clear hs0S; go_simp; try with_reducible rfl)
          simp only [Act.put, List.setIfInBounds_toArray, List.set_cons_zero, List.set_cons_succ]
          refine wpAnyH_take (i := 1) (oi := { dst := some 35, op := Op.move (Operand.tmp 0), type := 37, pos := "law.go:68", after := _, guard := none }) (v := ?_) rfl (by kernel_rfl) (by kernel_rfl) (by kernel_rfl) (fun _ _ _ h => h) (Or.inl ⟨by rfl, ?_⟩) (by assumption) ?_
          rotate_left
          · (intro w hSw; (try dsimp only at hSw); go_simp; try with_reducible rfl)
          simp only [Act.put, List.setIfInBounds_toArray, List.set_cons_zero, List.set_cons_succ]
          refine wpAnyH_take (i := 2) (oi := { dst := some 36, op := Op.move (Operand.tmp 6), type := 3, pos := "law.go:68", after := _, guard := none }) (v := ?_) rfl (by kernel_rfl) (by kernel_rfl) (by kernel_rfl) (fun _ _ _ h => h) (Or.inl ⟨by rfl, ?_⟩) (by assumption) ?_
          rotate_left
          · (intro w hSw; (try dsimp only at hSw); go_simp; try with_reducible rfl)
          simp only [Act.put, List.setIfInBounds_toArray, List.set_cons_zero, List.set_cons_succ]
          refine wpAnyH_take (i := 3) (oi := { dst := some 37, op := Op.indexAddr 37 (Operand.tmp 35) (Operand.tmp 36), type := 0, pos := "law.go:68", after := _, guard := none }) (v := ?_) rfl (by kernel_rfl) (by kernel_rfl) (by kernel_rfl) (fun _ _ _ h => h) (Or.inl ⟨by rfl, ?_⟩) (by assumption) ?_
          rotate_left
          · (intro w hSw; (try dsimp only at hSw); go_simp; try with_reducible rfl)
          simp only [Act.put, List.setIfInBounds_toArray, List.set_cons_zero, List.set_cons_succ]
          refine wpAnyH_take (i := 4) (oi := { dst := some 38, op := Op.fieldAddr 40 (Operand.tmp 37) 2, type := 0, pos := "law.go:68", after := _, guard := none }) (v := ?_) rfl (by kernel_rfl) (by kernel_rfl) (by kernel_rfl) (fun _ _ _ h => h) (Or.inl ⟨by rfl, ?_⟩) (by assumption) ?_
          rotate_left
          · (intro w hSw; (try dsimp only at hSw); go_simp; try with_reducible rfl)
          simp only [Act.put, List.setIfInBounds_toArray, List.set_cons_zero, List.set_cons_succ]
          refine wpAnyH_take (i := 5) (oi := { dst := some 39, op := Op.load 26 (Operand.tmp 38), type := 26, pos := "law.go:68", after := _, guard := none }) (v := ?_) rfl (by kernel_rfl) (by kernel_rfl) (by kernel_rfl) (fun _ _ _ h => h) (Or.inl ⟨by rfl, ?_⟩) (by assumption) ?_
          rotate_left
          · (intro W hSw; (try dsimp only at hSw); obtain ⟨hs0S, hs1S, hs2S, hs3S, hs4S⟩ := hSw; have c0_0 : W.cell? ⟨v1.heap.size, 0, none⟩ = some (.bool false) := (BoxAt.cell hs0S 0).trans rfl; have c0_1 : W.cell? ⟨v1.heap.size, 1, none⟩ = some (.slice xa K xc) := (BoxAt.cell hs0S 1).trans rfl; clear hs0S; go_simp; try with_reducible rfl)
          simp only [Act.put, List.setIfInBounds_toArray, List.set_cons_zero, List.set_cons_succ]
          refine wpAnyH_take (i := 6) (oi := { dst := some 40, op := Op.move (Operand.tmp 0), type := 37, pos := "law.go:68", after := _, guard := none }) (v := ?_) rfl (by kernel_rfl) (by kernel_rfl) (by kernel_rfl) (fun _ _ _ h => h) (Or.inl ⟨by rfl, ?_⟩) (by assumption) ?_
          rotate_left
          · (intro w hSw; (try dsimp only at hSw); go_simp; try with_reducible rfl)
          simp only [Act.put, List.setIfInBounds_toArray, List.set_cons_zero, List.set_cons_succ]
          refine wpAnyH_take (i := 7) (oi := { dst := some 41, op := Op.move (Operand.tmp 6), type := 3, pos := "law.go:68", after := _, guard := none }) (v := ?_) rfl (by kernel_rfl) (by kernel_rfl) (by kernel_rfl) (fun _ _ _ h => h) (Or.inl ⟨by rfl, ?_⟩) (by assumption) ?_
          rotate_left
          · (intro w hSw; (try dsimp only at hSw); go_simp; try with_reducible rfl)
          simp only [Act.put, List.setIfInBounds_toArray, List.set_cons_zero, List.set_cons_succ]
          refine wpAnyH_take (i := 8) (oi := { dst := some 42, op := Op.indexAddr 37 (Operand.tmp 40) (Operand.tmp 41), type := 0, pos := "law.go:68", after := _, guard := none }) (v := ?_) rfl (by kernel_rfl) (by kernel_rfl) (by kernel_rfl) (fun _ _ _ h => h) (Or.inl ⟨by rfl, ?_⟩) (by assumption) ?_
          rotate_left
          · (intro w hSw; (try dsimp only at hSw); go_simp; try with_reducible rfl)
          simp only [Act.put, List.setIfInBounds_toArray, List.set_cons_zero, List.set_cons_succ]
          refine wpAnyH_take (i := 9) (oi := { dst := some 43, op := Op.fieldAddr 40 (Operand.tmp 42) 1, type := 0, pos := "law.go:68", after := _, guard := none }) (v := ?_) rfl (by kernel_rfl) (by kernel_rfl) (by kernel_rfl) (fun _ _ _ h => h) (Or.inl ⟨by rfl, ?_⟩) (by assumption) ?_
          rotate_left
          · (intro w hSw; (try dsimp only at hSw); go_simp; try with_reducible rfl)
          simp only [Act.put, List.setIfInBounds_toArray, List.set_cons_zero, List.set_cons_succ]
          refine wpAnyH_take (i := 10) (oi := { dst := some 44, op := Op.load 4 (Operand.tmp 43), type := 4, pos := "law.go:68", after := _, guard := none }) (v := ?_) rfl (by kernel_rfl) (by kernel_rfl) (by kernel_rfl) (fun _ _ _ h => h) (Or.inl ⟨by rfl, ?_⟩) (by assumption) ?_
          rotate_left
          · (intro W hSw; (try dsimp only at hSw); obtain ⟨hs0S, hs1S, hs2S, hs3S, hs4S⟩ := hSw; have c0_0 : W.cell? ⟨v1.heap.size, 0, none⟩ = some (.bool false) := (BoxAt.cell hs0S 0).trans rfl; have c0_1 : W.cell? ⟨v1.heap.size, 1, none⟩ = some (.slice xa K xc) := (BoxAt.cell hs0S 1).trans rfl; clear hs0S; go_simp; try with_reducible rfl)
          simp only [Act.put, List.setIfInBounds_toArray, List.set_cons_zero, List.set_cons_succ]
          refine wpAnyH_ready (rs := [11, 15]) (by kernel_rfl) (by simp) (AllReadyH.cons (o := { dst := some 45, op := Op.call { callee := Callee.value (Operand.func 15), args := #[Operand.tmp 34, Operand.tmp 39, Operand.tmp 44], argTypes := #[24, 26, 4] }, type := 34, pos := "law.go:68", after := _, guard := none }) rfl (fun K3012 hK3012 => ?b3012_11) (AllReadyH.cons (o := { dst := some 10, op := Op.alloc 24, type := 0, pos := "law.go:68", after := _, guard := none }) rfl (fun K3012 hK3012 => ?b3012_15) AllReadyH.nil))
          case' b3012_11 =>
            have HBs := HB.out.size
            go_simp
            refine (await_any false y0 y1 y2 true (s := ⟨xa, K, xc⟩) (l := T) HU.out.sees (by have := HTN.out; have := HI60.out; omega)).mono ?_
            rintro e v5 ⟨x1, rfl, hu, hb⟩
            have BB := hid (BB.out.belowAll hb)
            have HU := hid (HU.out.below hb)
            have HW := hid (HW.out.below hb)
            have HB := hid (HB.out.trans (hb.mono HB.out.size))
            have hsv5 : v4.heap.size ≤ v5.heap.size := by first | exact hb.size | omega
            rw [show awC false true = 6 from rfl]
            rw [show awL false true T ⟨y0, y1, y2⟩ = (addP T ⟨y0, y1, y2⟩ false) from rfl] at hu
            have hun := hu.n
            rw [addP_len, HTN.out, hK1] at hun
            have HU1 := hid (hu.mono HBs)
            obtain ⟨ya, yn, yc⟩ := x1
            simp only at hun
            have hum : K1 = yn := hun.symm
            clear hu hun HBs HU
            subst hum
            clear hb
            refine hK3012.out _ _ (⟨BB.out, (HB.out.cell (by exact hbw)).trans c1.out, (HB.out.cell (by exact hbw)).trans c2.out, (HB.out.cell (by exact hbw)).trans c3.out, (HB.out.cell (by exact hbw)).trans c4.out⟩) (fun hHeld3012 => ?_)
            clear hK3012 K3012
            try simp only [Act.put, List.setIfInBounds_toArray, List.set_cons_zero, List.set_cons_succ]
            refine wpAnyH_take (i := 12) (oi := { dst := some 33, op := Op.move (Operand.tmp 45), type := 34, pos := "law.go:68", after := _, guard := none }) (v := ?_) rfl (by kernel_rfl) (by kernel_rfl) (by kernel_rfl) (fun _ _ _ h => h) (Or.inl ⟨by rfl, ?_⟩) (by assumption) ?_
            rotate_left
            · (intro w hSw; (try dsimp only at hSw); go_simp; try with_reducible rfl)
            simp only [Act.put, List.setIfInBounds_toArray, List.set_cons_zero, List.set_cons_succ]
            refine wpAnyH_take (i := 13) (oi := { dst := some 46, op := Op.extract (Operand.tmp 33) 0, type := 24, pos := "law.go:68", after := _, guard := none }) (v := ?_) rfl (by kernel_rfl) (by kernel_rfl) (by kernel_rfl) (fun _ _ _ h => h) (Or.inl ⟨by rfl, ?_⟩) (by assumption) ?_
            rotate_left
            · (intro w hSw; (try dsimp only at hSw); go_simp; try with_reducible rfl)
            simp only [Act.put, List.setIfInBounds_toArray, List.set_cons_zero, List.set_cons_succ]
            refine wpAnyH_take (i := 14) (oi := { dst := some 47, op := Op.extract (Operand.tmp 33) 1, type := 3, pos := "law.go:68", after := _, guard := none }) (v := ?_) rfl (by kernel_rfl) (by kernel_rfl) (by kernel_rfl) (fun _ _ _ h => h) (Or.inl ⟨by rfl, ?_⟩) (by assumption) ?_
            rotate_left
            · (intro w hSw; (try dsimp only at hSw); go_simp; try with_reducible rfl)
            simp only [Act.put, List.setIfInBounds_toArray, List.set_cons_zero, List.set_cons_succ]
            refine wpAnyH_ready (rs := [15]) (by kernel_rfl) (by simp) (AllReadyH.cons (o := { dst := some 10, op := Op.alloc 24, type := 0, pos := "law.go:68", after := _, guard := none }) rfl (fun K3016 hK3016 => ?_) AllReadyH.nil)
            refine step_new rfl 24 rfl _ Try.zeroEv ?_
            intro v6 b h z
            have CB := hid (show BoxAt v6 v5.heap.size 24 #[.bool false, .slice none 0 0] from b)
            have BB := hid (BB.out.belowAll h)
            have HW := hid (HW.out.below h)
            have HU1 := hid (HU1.out.below h)
            have HB := hid (HB.out.trans (h.mono HB.out.size))
            have hsv6 : v5.heap.size + 1 ≤ v6.heap.size := by first | exact h.size | omega
            clear b h z
            refine hK3016.out _ _ (⟨BB.out, (HB.out.cell (by exact hbw)).trans c1.out, (HB.out.cell (by exact hbw)).trans c2.out, (HB.out.cell (by exact hbw)).trans c3.out, (HB.out.cell (by exact hbw)).trans c4.out⟩) (fun hHeld3016 => ?_)
            clear hK3016 K3016
            try simp only [Act.put, List.setIfInBounds_toArray, List.set_cons_zero, List.set_cons_succ]
            refine wpAnyH_ready (rs := [16]) (by kernel_rfl) (by simp) (AllReadyH.cons (o := { dst := none, op := Op.store 24 (Operand.tmp 10) (Operand.tmp 46), type := 0, pos := "law.go:68", after := _, guard := none }) rfl (fun K3017 hK3017 => ?_) AllReadyH.nil)
            refine step_store_whole rfl 24 _ _ rfl (v5.heap.size) rfl [.bool false, .slice ya K1 yc] rfl _ _ CB.out rfl Try.infoEv (by simp [Value.oneCell']) ?_
            intro v7 b g z
            have hsv7 : v6.heap.size ≤ v7.heap.size := by omega
            have HW := hid (HW.out.put g CB.out (by decide))
            have HU1 := hid (HU1.out.put g CB.out (by decide))
            have CB := hid (show BoxAt v7 (v5.heap.size) 24 #[.bool false, .slice ya K1 yc] from b)
            have BB := hid (BB.out.grown g (fun e => by have := Option.some.inj e; omega))
            have HB := hid (HB.out.trans (grown_below g (by omega) (by omega)))
            clear b g z
            refine hK3017.out _ _ (⟨BB.out, (HB.out.cell (by exact hbw)).trans c1.out, (HB.out.cell (by exact hbw)).trans c2.out, (HB.out.cell (by exact hbw)).trans c3.out, (HB.out.cell (by exact hbw)).trans c4.out⟩) (fun hHeld3017 => ?_)
            clear hK3017 K3017
            try simp only [Act.put]
            refine wpAnyH_take (i := 17) (oi := { dst := some 11, op := Op.assign (Operand.tmp 47), type := 3, pos := "law.go:68", after := _, guard := none }) (v := ?_) rfl (by kernel_rfl) (by kernel_rfl) (by kernel_rfl) (fun _ _ _ h => h) (Or.inl ⟨by rfl, ?_⟩) (by assumption) ?_
            rotate_left
            · (intro w hSw; (try dsimp only at hSw); go_simp; try with_reducible rfl)
            simp only [Act.put, List.setIfInBounds_toArray, List.set_cons_zero, List.set_cons_succ]
            refine wpAnyH_done (by kernel_rfl) ?_ _
            clear hHeld hHeld3012 hHeld3016 hHeld3017
            have kBB0 : v7.cell? ⟨v1.heap.size, 0, none⟩ = some (.bool false) := (BoxAt.cell BB.out 0).trans rfl
            have kBB1 : v7.cell? ⟨v1.heap.size, 1, none⟩ = some (.slice xa K xc) := (BoxAt.cell BB.out 1).trans rfl
            have d2 := (HB.out.cell (by exact hbw)).trans c2.out
            have FL3 := hid trivial
            have FL4 := hid trivial
            go_wp2_with (first
              | (have hfl := FL3.out
                 refine wpList_litI rfl (.tmp 61) rfl (y0) rfl ?_
                 intro v8 b h
                 have LB := hid (show BoxAt v8 v7.heap.size 3 #[.int .i64 (y0)] from b)
                 have BB := hid (BB.out.belowAll h)
                 have CB := hid (CB.out.belowAll h)
                 have HW := hid (HW.out.below h)
                 have HU1 := hid (HU1.out.below h)
                 have HB := hid (HB.out.trans (h.mono HB.out.size))
                 have hsv8 : v7.heap.size ≤ v8.heap.size := by first | exact h.size | omega
                 clear kBB0 kBB1
                 have kBB0 : v8.cell? ⟨v1.heap.size, 0, none⟩ = some (.bool false) := (BoxAt.cell BB.out 0).trans rfl
                 have kBB1 : v8.cell? ⟨v1.heap.size, 1, none⟩ = some (.slice xa K xc) := (BoxAt.cell BB.out 1).trans rfl
                 clear b h hfl FL3)
              | (have hfl := FL4.out
                 at_builtin
                 refine app_ints rfl (.tmp 55) (.tmp 62) rfl (w.heap.size) _ ((T.map Wt.p)) rfl HW.out _ [y0] rfl (Sees.box (ys := [y0]) LB.out (by simp)) (by have := HTN.out; have := HI60.out; simp; omega) (by omega) ?_
                 intro uv9 v9 ho g h
                 obtain ⟨qv9, rfl, -⟩ := ho.sl
                 have hsv9 : v8.heap.size ≤ v9.heap.size := g.size
                 have BB := hid (BB.out.grown g (OI.apart HW.out BB.out (by decide)))
                 have CB := hid (CB.out.grown g (OI.apart HW.out CB.out (by decide)))
                 have HU1 := hid (HU1.out.over HW.out g)
                 have HB := hid (HB.out.trans h)
                 have HX := hid ho
                 clear ho g h
                 clear LB
                 clear kBB0 kBB1
                 have kBB0 : v9.cell? ⟨v1.heap.size, 0, none⟩ = some (.bool false) := (BoxAt.cell BB.out 0).trans rfl
                 have kBB1 : v9.cell? ⟨v1.heap.size, 1, none⟩ = some (.slice xa K xc) := (BoxAt.cell BB.out 1).trans rfl
                 clear hfl FL4
                 refine Hid.out ?_)
              | fail)
            refine hid ?_
            have hwn : qv9.n = (T.map Wt.p ++ [y0]).length := OI.n (s := qv9) HX.out
            rw [show (T.map Wt.p ++ [y0]).length = K1 from by simp [HTN.out, hK1]] at hwn
            obtain ⟨wa2, wn2, wk2⟩ := qv9
            simp only at hwn HX
            have hwm := hwn.symm
            clear hwn HW
            subst hwm
            have FL5 := hid trivial
            go_wp2_with (first
              | (refine wpList_load_box rfl 24 _ rfl (v5.heap.size) rfl _ _ CB.out _ Try.underlying24 Try.infoEv ?_)
              | (have hfl := FL5.out
                 refine wpList_store_whole rfl 24 _ _ rfl rfl (v1.heap.size) rfl [.bool false, .slice ya K1 yc] rfl _ _ BB.out rfl Try.infoEv (by simp [Value.oneCell']) ?_
                 intro v10 b g z
                 have hsv10 : v9.heap.size ≤ v10.heap.size := by omega
                 have HX := hid (HX.out.put g BB.out (by decide))
                 have HU1 := hid (HU1.out.put g BB.out (by decide))
                 have BB := hid (show BoxAt v10 (v1.heap.size) 24 #[.bool false, .slice ya K1 yc] from b)
                 have CB := hid (CB.out.grown g (fun e => by have := Option.some.inj e; omega))
                 have HB := hid (HB.out.trans (grown_below g (by omega) (by omega)))
                 clear kBB0 kBB1
                 have kBB0 : v10.cell? ⟨v1.heap.size, 0, none⟩ = some (.bool false) := (BoxAt.cell BB.out 0).trans rfl
                 have kBB1 : v10.cell? ⟨v1.heap.size, 1, none⟩ = some (.slice ya K1 yc) := (BoxAt.cell BB.out 1).trans rfl
                 clear b g z hfl FL5
                 refine Hid.out ?_)
              | fail)
            refine hid ?_
            clear kBB0 kBB1
            have kBB0 : v10.cell? ⟨v1.heap.size, 0, none⟩ = some (.bool false) := (BoxAt.cell BB.out 0).trans rfl
            have kBB1 : v10.cell? ⟨v1.heap.size, 1, none⟩ = some (.slice ya K1 yc) := (BoxAt.cell BB.out 1).trans rfl
            go_wp2_with fail
            go_roundw
            case rel => exact ⟨i + 1, K1, false, (addP T ⟨y0, y1, y2⟩ false), ya, wa2, yc, wk2, by omega, by rfl, by go_num, (fun h => by cases h), by rw [addP_len, HTN.out, hK1], by omega, BB.out, HU1.out, by have := HX.out; rw [goes_map]; exact this, HB.out⟩
            case measure => simp [intOf]; omega
          case' b3012_15 =>
            refine step_new rfl 24 rfl _ Try.zeroEv ?_
            intro v5 b h z
            have CB := hid (show BoxAt v5 v4.heap.size 24 #[.bool false, .slice none 0 0] from b)
            have BB := hid (BB.out.belowAll h)
            have HU := hid (HU.out.below h)
            have HW := hid (HW.out.below h)
            have HB := hid (HB.out.trans (h.mono HB.out.size))
            have hsv5 : v4.heap.size + 1 ≤ v5.heap.size := by first | exact h.size | omega
            clear b h z
            refine hK3012.out _ _ (⟨BB.out, (HB.out.cell (by exact hbw)).trans c1.out, (HB.out.cell (by exact hbw)).trans c2.out, (HB.out.cell (by exact hbw)).trans c3.out, (HB.out.cell (by exact hbw)).trans c4.out⟩) (fun hHeld3012 => ?_)
            clear hK3012 K3012
            try simp only [Act.put, List.setIfInBounds_toArray, List.set_cons_zero, List.set_cons_succ]
            refine wpAnyH_ready (rs := [11]) (by kernel_rfl) (by simp) (AllReadyH.cons (o := { dst := some 45, op := Op.call { callee := Callee.value (Operand.func 15), args := #[Operand.tmp 34, Operand.tmp 39, Operand.tmp 44], argTypes := #[24, 26, 4] }, type := 34, pos := "law.go:68", after := _, guard := none }) rfl (fun K3019 hK3019 => ?_) AllReadyH.nil)
            have HBs := HB.out.size
            go_simp
            refine (await_any false y0 y1 y2 true (s := ⟨xa, K, xc⟩) (l := T) HU.out.sees (by have := HTN.out; have := HI60.out; omega)).mono ?_
            rintro e v6 ⟨x1, rfl, hu, hb⟩
            have BB := hid (BB.out.belowAll hb)
            have CB := hid (CB.out.belowAll hb)
            have HU := hid (HU.out.below hb)
            have HW := hid (HW.out.below hb)
            have HB := hid (HB.out.trans (hb.mono HB.out.size))
            have hsv6 : v5.heap.size ≤ v6.heap.size := by first | exact hb.size | omega
            rw [show awC false true = 6 from rfl]
            rw [show awL false true T ⟨y0, y1, y2⟩ = (addP T ⟨y0, y1, y2⟩ false) from rfl] at hu
            have hun := hu.n
            rw [addP_len, HTN.out, hK1] at hun
            have HU1 := hid (hu.mono HBs)
            obtain ⟨ya, yn, yc⟩ := x1
            simp only at hun
            have hum : K1 = yn := hun.symm
            clear hu hun HBs HU
            subst hum
            clear hb
            refine hK3019.out _ _ (⟨BB.out, (HB.out.cell (by exact hbw)).trans c1.out, (HB.out.cell (by exact hbw)).trans c2.out, (HB.out.cell (by exact hbw)).trans c3.out, (HB.out.cell (by exact hbw)).trans c4.out⟩) (fun hHeld3019 => ?_)
            clear hK3019 K3019
            try simp only [Act.put, List.setIfInBounds_toArray, List.set_cons_zero, List.set_cons_succ]
            refine wpAnyH_take (i := 12) (oi := { dst := some 33, op := Op.move (Operand.tmp 45), type := 34, pos := "law.go:68", after := _, guard := none }) (v := ?_) rfl (by kernel_rfl) (by kernel_rfl) (by kernel_rfl) (fun _ _ _ h => h) (Or.inl ⟨by rfl, ?_⟩) (by assumption) ?_
            rotate_left
            · (intro w hSw; (try dsimp only at hSw); go_simp; try with_reducible rfl)
            simp only [Act.put, List.setIfInBounds_toArray, List.set_cons_zero, List.set_cons_succ]
            refine wpAnyH_take (i := 13) (oi := { dst := some 46, op := Op.extract (Operand.tmp 33) 0, type := 24, pos := "law.go:68", after := _, guard := none }) (v := ?_) rfl (by kernel_rfl) (by kernel_rfl) (by kernel_rfl) (fun _ _ _ h => h) (Or.inl ⟨by rfl, ?_⟩) (by assumption) ?_
            rotate_left
            · (intro w hSw; (try dsimp only at hSw); go_simp; try with_reducible rfl)
            simp only [Act.put, List.setIfInBounds_toArray, List.set_cons_zero, List.set_cons_succ]
            refine wpAnyH_take (i := 14) (oi := { dst := some 47, op := Op.extract (Operand.tmp 33) 1, type := 3, pos := "law.go:68", after := _, guard := none }) (v := ?_) rfl (by kernel_rfl) (by kernel_rfl) (by kernel_rfl) (fun _ _ _ h => h) (Or.inl ⟨by rfl, ?_⟩) (by assumption) ?_
            rotate_left
            · (intro w hSw; (try dsimp only at hSw); go_simp; try with_reducible rfl)
            simp only [Act.put, List.setIfInBounds_toArray, List.set_cons_zero, List.set_cons_succ]
            refine wpAnyH_ready (rs := [16]) (by kernel_rfl) (by simp) (AllReadyH.cons (o := { dst := none, op := Op.store 24 (Operand.tmp 10) (Operand.tmp 46), type := 0, pos := "law.go:68", after := _, guard := none }) rfl (fun K3023 hK3023 => ?_) AllReadyH.nil)
            refine step_store_whole rfl 24 _ _ rfl (v4.heap.size) rfl [.bool false, .slice ya K1 yc] rfl _ _ CB.out rfl Try.infoEv (by simp [Value.oneCell']) ?_
            intro v7 b g z
            have hsv7 : v6.heap.size ≤ v7.heap.size := by omega
            have HW := hid (HW.out.put g CB.out (by decide))
            have HU1 := hid (HU1.out.put g CB.out (by decide))
            have CB := hid (show BoxAt v7 (v4.heap.size) 24 #[.bool false, .slice ya K1 yc] from b)
            have BB := hid (BB.out.grown g (fun e => by have := Option.some.inj e; omega))
            have HB := hid (HB.out.trans (grown_below g (by omega) (by omega)))
            clear b g z
            refine hK3023.out _ _ (⟨BB.out, (HB.out.cell (by exact hbw)).trans c1.out, (HB.out.cell (by exact hbw)).trans c2.out, (HB.out.cell (by exact hbw)).trans c3.out, (HB.out.cell (by exact hbw)).trans c4.out⟩) (fun hHeld3023 => ?_)
            clear hK3023 K3023
            try simp only [Act.put]
            refine wpAnyH_take (i := 17) (oi := { dst := some 11, op := Op.assign (Operand.tmp 47), type := 3, pos := "law.go:68", after := _, guard := none }) (v := ?_) rfl (by kernel_rfl) (by kernel_rfl) (by kernel_rfl) (fun _ _ _ h => h) (Or.inl ⟨by rfl, ?_⟩) (by assumption) ?_
            rotate_left
            · (intro w hSw; (try dsimp only at hSw); go_simp; try with_reducible rfl)
            simp only [Act.put, List.setIfInBounds_toArray, List.set_cons_zero, List.set_cons_succ]
            refine wpAnyH_done (by kernel_rfl) ?_ _
            clear hHeld hHeld3012 hHeld3019 hHeld3023
            have kBB0 : v7.cell? ⟨v1.heap.size, 0, none⟩ = some (.bool false) := (BoxAt.cell BB.out 0).trans rfl
            have kBB1 : v7.cell? ⟨v1.heap.size, 1, none⟩ = some (.slice xa K xc) := (BoxAt.cell BB.out 1).trans rfl
            have d2 := (HB.out.cell (by exact hbw)).trans c2.out
            have FL3 := hid trivial
            have FL4 := hid trivial
            go_wp2_with (first
              | (have hfl := FL3.out
                 refine wpList_litI rfl (.tmp 61) rfl (y0) rfl ?_
                 intro v8 b h
                 have LB := hid (show BoxAt v8 v7.heap.size 3 #[.int .i64 (y0)] from b)
                 have BB := hid (BB.out.belowAll h)
                 have CB := hid (CB.out.belowAll h)
                 have HW := hid (HW.out.below h)
                 have HU1 := hid (HU1.out.below h)
                 have HB := hid (HB.out.trans (h.mono HB.out.size))
                 have hsv8 : v7.heap.size ≤ v8.heap.size := by first | exact h.size | omega
                 clear kBB0 kBB1
                 have kBB0 : v8.cell? ⟨v1.heap.size, 0, none⟩ = some (.bool false) := (BoxAt.cell BB.out 0).trans rfl
                 have kBB1 : v8.cell? ⟨v1.heap.size, 1, none⟩ = some (.slice xa K xc) := (BoxAt.cell BB.out 1).trans rfl
                 clear b h hfl FL3)
              | (have hfl := FL4.out
                 at_builtin
                 refine app_ints rfl (.tmp 55) (.tmp 62) rfl (w.heap.size) _ ((T.map Wt.p)) rfl HW.out _ [y0] rfl (Sees.box (ys := [y0]) LB.out (by simp)) (by have := HTN.out; have := HI60.out; simp; omega) (by omega) ?_
                 intro uv9 v9 ho g h
                 obtain ⟨qv9, rfl, -⟩ := ho.sl
                 have hsv9 : v8.heap.size ≤ v9.heap.size := g.size
                 have BB := hid (BB.out.grown g (OI.apart HW.out BB.out (by decide)))
                 have CB := hid (CB.out.grown g (OI.apart HW.out CB.out (by decide)))
                 have HU1 := hid (HU1.out.over HW.out g)
                 have HB := hid (HB.out.trans h)
                 have HX := hid ho
                 clear ho g h
                 clear LB
                 clear kBB0 kBB1
                 have kBB0 : v9.cell? ⟨v1.heap.size, 0, none⟩ = some (.bool false) := (BoxAt.cell BB.out 0).trans rfl
                 have kBB1 : v9.cell? ⟨v1.heap.size, 1, none⟩ = some (.slice xa K xc) := (BoxAt.cell BB.out 1).trans rfl
                 clear hfl FL4
                 refine Hid.out ?_)
              | fail)
            refine hid ?_
            have hwn : qv9.n = (T.map Wt.p ++ [y0]).length := OI.n (s := qv9) HX.out
            rw [show (T.map Wt.p ++ [y0]).length = K1 from by simp [HTN.out, hK1]] at hwn
            obtain ⟨wa2, wn2, wk2⟩ := qv9
            simp only at hwn HX
            have hwm := hwn.symm
            clear hwn HW
            subst hwm
            have FL5 := hid trivial
            go_wp2_with (first
              | (refine wpList_load_box rfl 24 _ rfl (v4.heap.size) rfl _ _ CB.out _ Try.underlying24 Try.infoEv ?_)
              | (have hfl := FL5.out
                 refine wpList_store_whole rfl 24 _ _ rfl rfl (v1.heap.size) rfl [.bool false, .slice ya K1 yc] rfl _ _ BB.out rfl Try.infoEv (by simp [Value.oneCell']) ?_
                 intro v10 b g z
                 have hsv10 : v9.heap.size ≤ v10.heap.size := by omega
                 have HX := hid (HX.out.put g BB.out (by decide))
                 have HU1 := hid (HU1.out.put g BB.out (by decide))
                 have BB := hid (show BoxAt v10 (v1.heap.size) 24 #[.bool false, .slice ya K1 yc] from b)
                 have CB := hid (CB.out.grown g (fun e => by have := Option.some.inj e; omega))
                 have HB := hid (HB.out.trans (grown_below g (by omega) (by omega)))
                 clear kBB0 kBB1
                 have kBB0 : v10.cell? ⟨v1.heap.size, 0, none⟩ = some (.bool false) := (BoxAt.cell BB.out 0).trans rfl
                 have kBB1 : v10.cell? ⟨v1.heap.size, 1, none⟩ = some (.slice ya K1 yc) := (BoxAt.cell BB.out 1).trans rfl
                 clear b g z hfl FL5
                 refine Hid.out ?_)
              | fail)
            refine hid ?_
            clear kBB0 kBB1
            have kBB0 : v10.cell? ⟨v1.heap.size, 0, none⟩ = some (.bool false) := (BoxAt.cell BB.out 0).trans rfl
            have kBB1 : v10.cell? ⟨v1.heap.size, 1, none⟩ = some (.slice ya K1 yc) := (BoxAt.cell BB.out 1).trans rfl
            go_wp2_with fail
            go_roundw
            case rel => exact ⟨i + 1, K1, false, (addP T ⟨y0, y1, y2⟩ false), ya, wa2, yc, wk2, by omega, by rfl, by go_num, (fun h => by cases h), by rw [addP_len, HTN.out, hK1], by omega, BB.out, HU1.out, by have := HX.out; rw [goes_map]; exact this, HB.out⟩
            case measure => simp [intOf]; omega
      · have hTe : T = [] := HT.out rfl
        subst hTe
        have hK0 : K = 0 := HTN.out.symm
        subst hK0
        go_wp2_with fail
        have BB := hid (BoxAt.drew BB.out)
        have HU := hid (HU.out.below ((Below.refl wr.heap.size wr).drew))
        have HW := hid (HW.out.below ((Below.refl wr.heap.size wr).drew))
        have HB := hid (HB.out.drew)
        have hsv4 : wr.heap.size ≤ wr.drew.heap.size := Nat.le_refl _
        refine wp_region_held_drew (S := (fun w' : World => BoxAt w' (v1.heap.size) 24 #[.bool true, .slice xa 0 xc] ∧ w'.cell? ⟨bb, off + i * 5 + 1, none⟩ = some (.bool my) ∧ w'.cell? ⟨bb, off + i * 5 + 2, none⟩ = some (.int .i64 y0) ∧ w'.cell? ⟨bb, off + i * 5 + 3, none⟩ = some (.int .i64 y1) ∧ w'.cell? ⟨bb, off + i * 5 + 4, none⟩ = some (.int .i64 y2))) (by kernel_rfl) (⟨BB.out, (HB.out.cell (by exact hbw)).trans c1.out, (HB.out.cell (by exact hbw)).trans c2.out, (HB.out.cell (by exact hbw)).trans c3.out, (HB.out.cell (by exact hbw)).trans c4.out⟩) (fun hHeld => ?_)
        generalize wr.drew = v4 at *
        refine wpAnyH_take (i := 0) (oi := { dst := some 34, op := Op.load 24 (Operand.tmp 4), type := 24, pos := "law.go:68", after := _, guard := none }) (v := ?_) rfl (by kernel_rfl) (by kernel_rfl) (by kernel_rfl) (fun _ _ _ h => h) (Or.inl ⟨by rfl, ?_⟩) (by assumption) ?_
        rotate_left
        · (intro W hSw; (try dsimp only at hSw); obtain ⟨hs0S, hs1S, hs2S, hs3S, hs4S⟩ := hSw; have c0_0 : W.cell? ⟨v1.heap.size, 0, none⟩ = some (.bool true) := (BoxAt.cell hs0S 0).trans rfl; have c0_1 : W.cell? ⟨v1.heap.size, 1, none⟩ = some (.slice xa 0 xc) := (BoxAt.cell hs0S 1).trans rfl; clear hs0S; go_simp; try with_reducible rfl)
        simp only [Act.put, List.setIfInBounds_toArray, List.set_cons_zero, List.set_cons_succ]
        refine wpAnyH_take (i := 1) (oi := { dst := some 35, op := Op.move (Operand.tmp 0), type := 37, pos := "law.go:68", after := _, guard := none }) (v := ?_) rfl (by kernel_rfl) (by kernel_rfl) (by kernel_rfl) (fun _ _ _ h => h) (Or.inl ⟨by rfl, ?_⟩) (by assumption) ?_
        rotate_left
        · (intro w hSw; (try dsimp only at hSw); go_simp; try with_reducible rfl)
        simp only [Act.put, List.setIfInBounds_toArray, List.set_cons_zero, List.set_cons_succ]
        refine wpAnyH_take (i := 2) (oi := { dst := some 36, op := Op.move (Operand.tmp 6), type := 3, pos := "law.go:68", after := _, guard := none }) (v := ?_) rfl (by kernel_rfl) (by kernel_rfl) (by kernel_rfl) (fun _ _ _ h => h) (Or.inl ⟨by rfl, ?_⟩) (by assumption) ?_
        rotate_left
        · (intro w hSw; (try dsimp only at hSw); go_simp; try with_reducible rfl)
        simp only [Act.put, List.setIfInBounds_toArray, List.set_cons_zero, List.set_cons_succ]
        refine wpAnyH_take (i := 3) (oi := { dst := some 37, op := Op.indexAddr 37 (Operand.tmp 35) (Operand.tmp 36), type := 0, pos := "law.go:68", after := _, guard := none }) (v := ?_) rfl (by kernel_rfl) (by kernel_rfl) (by kernel_rfl) (fun _ _ _ h => h) (Or.inl ⟨by rfl, ?_⟩) (by assumption) ?_
        rotate_left
        · (intro w hSw; (try dsimp only at hSw); go_simp; try with_reducible rfl)
        simp only [Act.put, List.setIfInBounds_toArray, List.set_cons_zero, List.set_cons_succ]
        refine wpAnyH_take (i := 4) (oi := { dst := some 38, op := Op.fieldAddr 40 (Operand.tmp 37) 2, type := 0, pos := "law.go:68", after := _, guard := none }) (v := ?_) rfl (by kernel_rfl) (by kernel_rfl) (by kernel_rfl) (fun _ _ _ h => h) (Or.inl ⟨by rfl, ?_⟩) (by assumption) ?_
        rotate_left
        · (intro w hSw; (try dsimp only at hSw); go_simp; try with_reducible rfl)
        simp only [Act.put, List.setIfInBounds_toArray, List.set_cons_zero, List.set_cons_succ]
        refine wpAnyH_take (i := 5) (oi := { dst := some 39, op := Op.load 26 (Operand.tmp 38), type := 26, pos := "law.go:68", after := _, guard := none }) (v := ?_) rfl (by kernel_rfl) (by kernel_rfl) (by kernel_rfl) (fun _ _ _ h => h) (Or.inl ⟨by rfl, ?_⟩) (by assumption) ?_
        rotate_left
        · (intro W hSw; (try dsimp only at hSw); obtain ⟨hs0S, hs1S, hs2S, hs3S, hs4S⟩ := hSw; have c0_0 : W.cell? ⟨v1.heap.size, 0, none⟩ = some (.bool true) := (BoxAt.cell hs0S 0).trans rfl; have c0_1 : W.cell? ⟨v1.heap.size, 1, none⟩ = some (.slice xa 0 xc) := (BoxAt.cell hs0S 1).trans rfl; clear hs0S; go_simp; try with_reducible rfl)
        simp only [Act.put, List.setIfInBounds_toArray, List.set_cons_zero, List.set_cons_succ]
        refine wpAnyH_take (i := 6) (oi := { dst := some 40, op := Op.move (Operand.tmp 0), type := 37, pos := "law.go:68", after := _, guard := none }) (v := ?_) rfl (by kernel_rfl) (by kernel_rfl) (by kernel_rfl) (fun _ _ _ h => h) (Or.inl ⟨by rfl, ?_⟩) (by assumption) ?_
        rotate_left
        · (intro w hSw; (try dsimp only at hSw); go_simp; try with_reducible rfl)
        simp only [Act.put, List.setIfInBounds_toArray, List.set_cons_zero, List.set_cons_succ]
        refine wpAnyH_take (i := 7) (oi := { dst := some 41, op := Op.move (Operand.tmp 6), type := 3, pos := "law.go:68", after := _, guard := none }) (v := ?_) rfl (by kernel_rfl) (by kernel_rfl) (by kernel_rfl) (fun _ _ _ h => h) (Or.inl ⟨by rfl, ?_⟩) (by assumption) ?_
        rotate_left
        · (intro w hSw; (try dsimp only at hSw); go_simp; try with_reducible rfl)
        simp only [Act.put, List.setIfInBounds_toArray, List.set_cons_zero, List.set_cons_succ]
        refine wpAnyH_take (i := 8) (oi := { dst := some 42, op := Op.indexAddr 37 (Operand.tmp 40) (Operand.tmp 41), type := 0, pos := "law.go:68", after := _, guard := none }) (v := ?_) rfl (by kernel_rfl) (by kernel_rfl) (by kernel_rfl) (fun _ _ _ h => h) (Or.inl ⟨by rfl, ?_⟩) (by assumption) ?_
        rotate_left
        · (intro w hSw; (try dsimp only at hSw); go_simp; try with_reducible rfl)
        simp only [Act.put, List.setIfInBounds_toArray, List.set_cons_zero, List.set_cons_succ]
        refine wpAnyH_take (i := 9) (oi := { dst := some 43, op := Op.fieldAddr 40 (Operand.tmp 42) 1, type := 0, pos := "law.go:68", after := _, guard := none }) (v := ?_) rfl (by kernel_rfl) (by kernel_rfl) (by kernel_rfl) (fun _ _ _ h => h) (Or.inl ⟨by rfl, ?_⟩) (by assumption) ?_
        rotate_left
        · (intro w hSw; (try dsimp only at hSw); go_simp; try with_reducible rfl)
        simp only [Act.put, List.setIfInBounds_toArray, List.set_cons_zero, List.set_cons_succ]
        refine wpAnyH_take (i := 10) (oi := { dst := some 44, op := Op.load 4 (Operand.tmp 43), type := 4, pos := "law.go:68", after := _, guard := none }) (v := ?_) rfl (by kernel_rfl) (by kernel_rfl) (by kernel_rfl) (fun _ _ _ h => h) (Or.inl ⟨by rfl, ?_⟩) (by assumption) ?_
        rotate_left
        · (intro W hSw; (try dsimp only at hSw); obtain ⟨hs0S, hs1S, hs2S, hs3S, hs4S⟩ := hSw; have c0_0 : W.cell? ⟨v1.heap.size, 0, none⟩ = some (.bool true) := (BoxAt.cell hs0S 0).trans rfl; have c0_1 : W.cell? ⟨v1.heap.size, 1, none⟩ = some (.slice xa 0 xc) := (BoxAt.cell hs0S 1).trans rfl; clear hs0S; go_simp; try with_reducible rfl)
        simp only [Act.put, List.setIfInBounds_toArray, List.set_cons_zero, List.set_cons_succ]
        refine wpAnyH_ready (rs := [11, 15]) (by kernel_rfl) (by simp) (AllReadyH.cons (o := { dst := some 45, op := Op.call { callee := Callee.value (Operand.func 15), args := #[Operand.tmp 34, Operand.tmp 39, Operand.tmp 44], argTypes := #[24, 26, 4] }, type := 34, pos := "law.go:68", after := _, guard := none }) rfl (fun K4012 hK4012 => ?b4012_11) (AllReadyH.cons (o := { dst := some 10, op := Op.alloc 24, type := 0, pos := "law.go:68", after := _, guard := none }) rfl (fun K4012 hK4012 => ?b4012_15) AllReadyH.nil))
        case' b4012_11 =>
          have HBs := HB.out.size
          go_simp
          refine (await_any true y0 y1 y2 my (s := ⟨xa, 0, xc⟩) (l := []) HU.out.sees (by simp)).mono ?_
          rintro e v5 ⟨x1, rfl, hu, hb⟩
          have BB := hid (BB.out.belowAll hb)
          have HU := hid (HU.out.below hb)
          have HW := hid (HW.out.below hb)
          have HB := hid (HB.out.trans (hb.mono HB.out.size))
          have hsv5 : v4.heap.size ≤ v5.heap.size := by first | exact hb.size | omega
          rw [show awC true my = 0 from rfl]
          rw [show awL true my [] ⟨y0, y1, y2⟩ = [] from rfl] at hu
          have hun := hu.n
          simp only [List.length_nil] at hun
          have HU1 := hid (hu.mono HBs)
          obtain ⟨ya, yn, yc⟩ := x1
          simp only at hun
          have hum : 0 = yn := hun.symm
          clear hu hun HBs HU
          subst hum
          clear hb
          refine hK4012.out _ _ (⟨BB.out, (HB.out.cell (by exact hbw)).trans c1.out, (HB.out.cell (by exact hbw)).trans c2.out, (HB.out.cell (by exact hbw)).trans c3.out, (HB.out.cell (by exact hbw)).trans c4.out⟩) (fun hHeld4012 => ?_)
          clear hK4012 K4012
          try simp only [Act.put, List.setIfInBounds_toArray, List.set_cons_zero, List.set_cons_succ]
          refine wpAnyH_take (i := 12) (oi := { dst := some 33, op := Op.move (Operand.tmp 45), type := 34, pos := "law.go:68", after := _, guard := none }) (v := ?_) rfl (by kernel_rfl) (by kernel_rfl) (by kernel_rfl) (fun _ _ _ h => h) (Or.inl ⟨by rfl, ?_⟩) (by assumption) ?_
          rotate_left
          · (intro w hSw; (try dsimp only at hSw); go_simp; try with_reducible rfl)
          simp only [Act.put, List.setIfInBounds_toArray, List.set_cons_zero, List.set_cons_succ]
          refine wpAnyH_take (i := 13) (oi := { dst := some 46, op := Op.extract (Operand.tmp 33) 0, type := 24, pos := "law.go:68", after := _, guard := none }) (v := ?_) rfl (by kernel_rfl) (by kernel_rfl) (by kernel_rfl) (fun _ _ _ h => h) (Or.inl ⟨by rfl, ?_⟩) (by assumption) ?_
          rotate_left
          · (intro w hSw; (try dsimp only at hSw); go_simp; try with_reducible rfl)
          simp only [Act.put, List.setIfInBounds_toArray, List.set_cons_zero, List.set_cons_succ]
          refine wpAnyH_take (i := 14) (oi := { dst := some 47, op := Op.extract (Operand.tmp 33) 1, type := 3, pos := "law.go:68", after := _, guard := none }) (v := ?_) rfl (by kernel_rfl) (by kernel_rfl) (by kernel_rfl) (fun _ _ _ h => h) (Or.inl ⟨by rfl, ?_⟩) (by assumption) ?_
          rotate_left
          · (intro w hSw; (try dsimp only at hSw); go_simp; try with_reducible rfl)
          simp only [Act.put, List.setIfInBounds_toArray, List.set_cons_zero, List.set_cons_succ]
          refine wpAnyH_ready (rs := [15]) (by kernel_rfl) (by simp) (AllReadyH.cons (o := { dst := some 10, op := Op.alloc 24, type := 0, pos := "law.go:68", after := _, guard := none }) rfl (fun K4016 hK4016 => ?_) AllReadyH.nil)
          refine step_new rfl 24 rfl _ Try.zeroEv ?_
          intro v6 b h z
          have CB := hid (show BoxAt v6 v5.heap.size 24 #[.bool false, .slice none 0 0] from b)
          have BB := hid (BB.out.belowAll h)
          have HW := hid (HW.out.below h)
          have HU1 := hid (HU1.out.below h)
          have HB := hid (HB.out.trans (h.mono HB.out.size))
          have hsv6 : v5.heap.size + 1 ≤ v6.heap.size := by first | exact h.size | omega
          clear b h z
          refine hK4016.out _ _ (⟨BB.out, (HB.out.cell (by exact hbw)).trans c1.out, (HB.out.cell (by exact hbw)).trans c2.out, (HB.out.cell (by exact hbw)).trans c3.out, (HB.out.cell (by exact hbw)).trans c4.out⟩) (fun hHeld4016 => ?_)
          clear hK4016 K4016
          try simp only [Act.put, List.setIfInBounds_toArray, List.set_cons_zero, List.set_cons_succ]
          refine wpAnyH_ready (rs := [16]) (by kernel_rfl) (by simp) (AllReadyH.cons (o := { dst := none, op := Op.store 24 (Operand.tmp 10) (Operand.tmp 46), type := 0, pos := "law.go:68", after := _, guard := none }) rfl (fun K4017 hK4017 => ?_) AllReadyH.nil)
          refine step_store_whole rfl 24 _ _ rfl (v5.heap.size) rfl [.bool true, .slice ya 0 yc] rfl _ _ CB.out rfl Try.infoEv (by simp [Value.oneCell']) ?_
          intro v7 b g z
          have hsv7 : v6.heap.size ≤ v7.heap.size := by omega
          have HW := hid (HW.out.put g CB.out (by decide))
          have HU1 := hid (HU1.out.put g CB.out (by decide))
          have CB := hid (show BoxAt v7 (v5.heap.size) 24 #[.bool true, .slice ya 0 yc] from b)
          have BB := hid (BB.out.grown g (fun e => by have := Option.some.inj e; omega))
          have HB := hid (HB.out.trans (grown_below g (by omega) (by omega)))
          clear b g z
          refine hK4017.out _ _ (⟨BB.out, (HB.out.cell (by exact hbw)).trans c1.out, (HB.out.cell (by exact hbw)).trans c2.out, (HB.out.cell (by exact hbw)).trans c3.out, (HB.out.cell (by exact hbw)).trans c4.out⟩) (fun hHeld4017 => ?_)
          clear hK4017 K4017
          try simp only [Act.put]
          refine wpAnyH_take (i := 17) (oi := { dst := some 11, op := Op.assign (Operand.tmp 47), type := 3, pos := "law.go:68", after := _, guard := none }) (v := ?_) rfl (by kernel_rfl) (by kernel_rfl) (by kernel_rfl) (fun _ _ _ h => h) (Or.inl ⟨by rfl, ?_⟩) (by assumption) ?_
          rotate_left
          · (intro w hSw; (try dsimp only at hSw); go_simp; try with_reducible rfl)
          simp only [Act.put, List.setIfInBounds_toArray, List.set_cons_zero, List.set_cons_succ]
          refine wpAnyH_done (by kernel_rfl) ?_ _
          clear hHeld hHeld4012 hHeld4016 hHeld4017
          have kBB0 : v7.cell? ⟨v1.heap.size, 0, none⟩ = some (.bool true) := (BoxAt.cell BB.out 0).trans rfl
          have kBB1 : v7.cell? ⟨v1.heap.size, 1, none⟩ = some (.slice xa 0 xc) := (BoxAt.cell BB.out 1).trans rfl
          have FL3 := hid trivial
          go_wp2_with (first
            | (refine wpList_load_box rfl 24 _ rfl (v5.heap.size) rfl _ _ CB.out _ Try.underlying24 Try.infoEv ?_)
            | (have hfl := FL3.out
               refine wpList_store_whole rfl 24 _ _ rfl rfl (v1.heap.size) rfl [.bool true, .slice ya 0 yc] rfl _ _ BB.out rfl Try.infoEv (by simp [Value.oneCell']) ?_
               intro v8 b g z
               have hsv8 : v7.heap.size ≤ v8.heap.size := by omega
               have HW := hid (HW.out.put g BB.out (by decide))
               have HU1 := hid (HU1.out.put g BB.out (by decide))
               have BB := hid (show BoxAt v8 (v1.heap.size) 24 #[.bool true, .slice ya 0 yc] from b)
               have CB := hid (CB.out.grown g (fun e => by have := Option.some.inj e; omega))
               have HB := hid (HB.out.trans (grown_below g (by omega) (by omega)))
               clear kBB0 kBB1
               have kBB0 : v8.cell? ⟨v1.heap.size, 0, none⟩ = some (.bool true) := (BoxAt.cell BB.out 0).trans rfl
               have kBB1 : v8.cell? ⟨v1.heap.size, 1, none⟩ = some (.slice ya 0 yc) := (BoxAt.cell BB.out 1).trans rfl
               clear b g z hfl FL3
               refine Hid.out ?_)
            | fail)
          refine hid ?_
          clear kBB0 kBB1
          have kBB0 : v8.cell? ⟨v1.heap.size, 0, none⟩ = some (.bool true) := (BoxAt.cell BB.out 0).trans rfl
          have kBB1 : v8.cell? ⟨v1.heap.size, 1, none⟩ = some (.slice ya 0 yc) := (BoxAt.cell BB.out 1).trans rfl
          go_wp2_with fail
          go_roundw
          case rel => exact ⟨i + 1, 0, true, [], ya, wa, yc, wk, by omega, by rfl, by go_num, (fun _ => rfl), rfl, by omega, BB.out, HU1.out, HW.out, HB.out⟩
          case measure => simp [intOf]; omega
        case' b4012_15 =>
          refine step_new rfl 24 rfl _ Try.zeroEv ?_
          intro v5 b h z
          have CB := hid (show BoxAt v5 v4.heap.size 24 #[.bool false, .slice none 0 0] from b)
          have BB := hid (BB.out.belowAll h)
          have HU := hid (HU.out.below h)
          have HW := hid (HW.out.below h)
          have HB := hid (HB.out.trans (h.mono HB.out.size))
          have hsv5 : v4.heap.size + 1 ≤ v5.heap.size := by first | exact h.size | omega
          clear b h z
          refine hK4012.out _ _ (⟨BB.out, (HB.out.cell (by exact hbw)).trans c1.out, (HB.out.cell (by exact hbw)).trans c2.out, (HB.out.cell (by exact hbw)).trans c3.out, (HB.out.cell (by exact hbw)).trans c4.out⟩) (fun hHeld4012 => ?_)
          clear hK4012 K4012
          try simp only [Act.put, List.setIfInBounds_toArray, List.set_cons_zero, List.set_cons_succ]
          refine wpAnyH_ready (rs := [11]) (by kernel_rfl) (by simp) (AllReadyH.cons (o := { dst := some 45, op := Op.call { callee := Callee.value (Operand.func 15), args := #[Operand.tmp 34, Operand.tmp 39, Operand.tmp 44], argTypes := #[24, 26, 4] }, type := 34, pos := "law.go:68", after := _, guard := none }) rfl (fun K4019 hK4019 => ?_) AllReadyH.nil)
          have HBs := HB.out.size
          go_simp
          refine (await_any true y0 y1 y2 my (s := ⟨xa, 0, xc⟩) (l := []) HU.out.sees (by simp)).mono ?_
          rintro e v6 ⟨x1, rfl, hu, hb⟩
          have BB := hid (BB.out.belowAll hb)
          have CB := hid (CB.out.belowAll hb)
          have HU := hid (HU.out.below hb)
          have HW := hid (HW.out.below hb)
          have HB := hid (HB.out.trans (hb.mono HB.out.size))
          have hsv6 : v5.heap.size ≤ v6.heap.size := by first | exact hb.size | omega
          rw [show awC true my = 0 from rfl]
          rw [show awL true my [] ⟨y0, y1, y2⟩ = [] from rfl] at hu
          have hun := hu.n
          simp only [List.length_nil] at hun
          have HU1 := hid (hu.mono HBs)
          obtain ⟨ya, yn, yc⟩ := x1
          simp only at hun
          have hum : 0 = yn := hun.symm
          clear hu hun HBs HU
          subst hum
          clear hb
          refine hK4019.out _ _ (⟨BB.out, (HB.out.cell (by exact hbw)).trans c1.out, (HB.out.cell (by exact hbw)).trans c2.out, (HB.out.cell (by exact hbw)).trans c3.out, (HB.out.cell (by exact hbw)).trans c4.out⟩) (fun hHeld4019 => ?_)
          clear hK4019 K4019
          try simp only [Act.put, List.setIfInBounds_toArray, List.set_cons_zero, List.set_cons_succ]
          refine wpAnyH_take (i := 12) (oi := { dst := some 33, op := Op.move (Operand.tmp 45), type := 34, pos := "law.go:68", after := _, guard := none }) (v := ?_) rfl (by kernel_rfl) (by kernel_rfl) (by kernel_rfl) (fun _ _ _ h => h) (Or.inl ⟨by rfl, ?_⟩) (by assumption) ?_
          rotate_left
          · (intro w hSw; (try dsimp only at hSw); go_simp; try with_reducible rfl)
          simp only [Act.put, List.setIfInBounds_toArray, List.set_cons_zero, List.set_cons_succ]
          refine wpAnyH_take (i := 13) (oi := { dst := some 46, op := Op.extract (Operand.tmp 33) 0, type := 24, pos := "law.go:68", after := _, guard := none }) (v := ?_) rfl (by kernel_rfl) (by kernel_rfl) (by kernel_rfl) (fun _ _ _ h => h) (Or.inl ⟨by rfl, ?_⟩) (by assumption) ?_
          rotate_left
          · (intro w hSw; (try dsimp only at hSw); go_simp; try with_reducible rfl)
          simp only [Act.put, List.setIfInBounds_toArray, List.set_cons_zero, List.set_cons_succ]
          refine wpAnyH_take (i := 14) (oi := { dst := some 47, op := Op.extract (Operand.tmp 33) 1, type := 3, pos := "law.go:68", after := _, guard := none }) (v := ?_) rfl (by kernel_rfl) (by kernel_rfl) (by kernel_rfl) (fun _ _ _ h => h) (Or.inl ⟨by rfl, ?_⟩) (by assumption) ?_
          rotate_left
          · (intro w hSw; (try dsimp only at hSw); go_simp; try with_reducible rfl)
          simp only [Act.put, List.setIfInBounds_toArray, List.set_cons_zero, List.set_cons_succ]
          refine wpAnyH_ready (rs := [16]) (by kernel_rfl) (by simp) (AllReadyH.cons (o := { dst := none, op := Op.store 24 (Operand.tmp 10) (Operand.tmp 46), type := 0, pos := "law.go:68", after := _, guard := none }) rfl (fun K4023 hK4023 => ?_) AllReadyH.nil)
          refine step_store_whole rfl 24 _ _ rfl (v4.heap.size) rfl [.bool true, .slice ya 0 yc] rfl _ _ CB.out rfl Try.infoEv (by simp [Value.oneCell']) ?_
          intro v7 b g z
          have hsv7 : v6.heap.size ≤ v7.heap.size := by omega
          have HW := hid (HW.out.put g CB.out (by decide))
          have HU1 := hid (HU1.out.put g CB.out (by decide))
          have CB := hid (show BoxAt v7 (v4.heap.size) 24 #[.bool true, .slice ya 0 yc] from b)
          have BB := hid (BB.out.grown g (fun e => by have := Option.some.inj e; omega))
          have HB := hid (HB.out.trans (grown_below g (by omega) (by omega)))
          clear b g z
          refine hK4023.out _ _ (⟨BB.out, (HB.out.cell (by exact hbw)).trans c1.out, (HB.out.cell (by exact hbw)).trans c2.out, (HB.out.cell (by exact hbw)).trans c3.out, (HB.out.cell (by exact hbw)).trans c4.out⟩) (fun hHeld4023 => ?_)
          clear hK4023 K4023
          try simp only [Act.put]
          refine wpAnyH_take (i := 17) (oi := { dst := some 11, op := Op.assign (Operand.tmp 47), type := 3, pos := "law.go:68", after := _, guard := none }) (v := ?_) rfl (by kernel_rfl) (by kernel_rfl) (by kernel_rfl) (fun _ _ _ h => h) (Or.inl ⟨by rfl, ?_⟩) (by assumption) ?_
          rotate_left
          · (intro w hSw; (try dsimp only at hSw); go_simp; try with_reducible rfl)
          simp only [Act.put, List.setIfInBounds_toArray, List.set_cons_zero, List.set_cons_succ]
          refine wpAnyH_done (by kernel_rfl) ?_ _
          clear hHeld hHeld4012 hHeld4019 hHeld4023
          have kBB0 : v7.cell? ⟨v1.heap.size, 0, none⟩ = some (.bool true) := (BoxAt.cell BB.out 0).trans rfl
          have kBB1 : v7.cell? ⟨v1.heap.size, 1, none⟩ = some (.slice xa 0 xc) := (BoxAt.cell BB.out 1).trans rfl
          have FL3 := hid trivial
          go_wp2_with (first
            | (refine wpList_load_box rfl 24 _ rfl (v4.heap.size) rfl _ _ CB.out _ Try.underlying24 Try.infoEv ?_)
            | (have hfl := FL3.out
               refine wpList_store_whole rfl 24 _ _ rfl rfl (v1.heap.size) rfl [.bool true, .slice ya 0 yc] rfl _ _ BB.out rfl Try.infoEv (by simp [Value.oneCell']) ?_
               intro v8 b g z
               have hsv8 : v7.heap.size ≤ v8.heap.size := by omega
               have HW := hid (HW.out.put g BB.out (by decide))
               have HU1 := hid (HU1.out.put g BB.out (by decide))
               have BB := hid (show BoxAt v8 (v1.heap.size) 24 #[.bool true, .slice ya 0 yc] from b)
               have CB := hid (CB.out.grown g (fun e => by have := Option.some.inj e; omega))
               have HB := hid (HB.out.trans (grown_below g (by omega) (by omega)))
               clear kBB0 kBB1
               have kBB0 : v8.cell? ⟨v1.heap.size, 0, none⟩ = some (.bool true) := (BoxAt.cell BB.out 0).trans rfl
               have kBB1 : v8.cell? ⟨v1.heap.size, 1, none⟩ = some (.slice ya 0 yc) := (BoxAt.cell BB.out 1).trans rfl
               clear b g z hfl FL3
               refine Hid.out ?_)
            | fail)
          refine hid ?_
          clear kBB0 kBB1
          have kBB0 : v8.cell? ⟨v1.heap.size, 0, none⟩ = some (.bool true) := (BoxAt.cell BB.out 0).trans rfl
          have kBB1 : v8.cell? ⟨v1.heap.size, 1, none⟩ = some (.slice ya 0 yc) := (BoxAt.cell BB.out 1).trans rfl
          go_wp2_with fail
          go_roundw
          case rel => exact ⟨i + 1, 0, true, [], ya, wa, yc, wk, by omega, by rfl, by go_num, (fun _ => rfl), rfl, by omega, BB.out, HU1.out, HW.out, HB.out⟩
          case measure => simp [intOf]; omega
    · go_wp2
      go_ret
      exact ⟨rfl, HB.out⟩

end Go.Proofs.Ytgnjnhfimagbpaa
