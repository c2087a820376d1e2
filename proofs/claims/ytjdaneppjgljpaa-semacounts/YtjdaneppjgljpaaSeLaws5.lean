/-
  SemaCounts: the walk.
-/
import Derived.Test.YtjdaneppjgljpaaSeAwake
import Derived.Test.YtjdaneppjgljpaaOp15Open
import Derived.BigQuiet
namespace Go.Proofs.Ytjdaneppjgljpaa
open Go.RowKit
set_option linter.unusedVariables false


theorem count_wake (D : Int) (T : List Wt) (h : 0 < T.length) : putN 0 D T = 0 ∧ putC 0 D T = 0 ∧ (putW T).length = 1 := by
  refine ⟨if_pos h, if_pos h, ?_⟩
  rw [show putW T = [⟨(T.getD 0 Wt.zero).p, 0, 0⟩] from if_pos h]
  rfl

theorem count_more (nn n1 D : Int) (hd : nn < D) (h0 : 0 ≤ nn) (h9 : D ≤ 8) (h1 : nn + 1 = n1) : putN nn D [] = n1 ∧ putC nn D [] = 0 := by
  have hn : ¬ 0 < ([] : List Wt).length := by simp
  refine ⟨?_, (if_neg hn).trans (if_pos hd)⟩
  rw [putN, if_neg hn, if_pos hd, h1]
  exact wrap64_id _ (by omega) (by omega)

theorem count_full (nn D : Int) (hd : ¬ nn < D) : putN nn D [] = nn ∧ putC nn D [] = 1 := by
  have hn : ¬ 0 < ([] : List Wt).length := by simp
  exact ⟨(if_neg hn).trans (if_neg hd), (if_neg hn).trans (if_neg hd)⟩

theorem count_take (nn n1 : Int) (y : Wt) (k my : Bool) (h0 : 0 < nn) (h9 : nn ≤ 8) (h1 : nn - 1 = n1) : getN nn = n1 ∧ getC nn my = 0 ∧ getL nn k [] y my = [] := by
  refine ⟨?_, if_pos h0, if_pos h0⟩
  rw [getN, if_pos h0, h1]
  exact wrap64_id _ (by omega) (by omega)

theorem count_wait (T : List Wt) (y : Wt) (k my : Bool) : getN 0 = 0 ∧ (getC 0 my == 0) = false ∧ (getL 0 k T y my).length ≤ T.length + 1 := by
  refine ⟨rfl, by cases my <;> rfl, ?_⟩
  rw [show getL 0 k T y my = if my then addP T y k else T from rfl]
  split
  · rw [addP_len]; exact Nat.le_refl _
  · omega


set_option maxRecDepth 100000 in
set_option maxHeartbeats 6400000 in
theorem walk_SemaCounts (w : World) (C0 : Int) (hx : (Lit.int .i64 C0).wf = true) (D : Int) (hx2 : (Lit.int .i64 D).wf = true) (k : Bool) (v : Value) (l : List Opr) (hv : SeesOp w v l) (hf : ∀ r ∈ l, r.fit) :
    Calls Try.prog 4 #[.int .i64 C0, .int .i64 D, .bool k, v] w fun e w' => e = .returned (.bool true) ∧ Below w.heap.size w w' := by
  clear hf hx hx2
  obtain ⟨al, cl, rfl, hl1, hl2, hlc⟩ := hv.form
  unfold maxLen at hl2
  obtain ⟨N, hN⟩ : ∃ n, l.length = n := ⟨_, rfl⟩
  rw [hN] at hl1 hlc ⊢
  have HLC := hid hlc
  clear hv hlc hN
  have HB := hid (Below.refl w.heap.size w)
  go_enter Try.func4, Try.ntmps4
  go_wp2_with fail
  refine (seawake_any _).mono ?_
  rintro e v1 ⟨rfl, hb⟩
  have HB := hid (HB.out.trans (hb.mono HB.out.size))
  have hsv1 : w.heap.size ≤ v1.heap.size := by first | exact hb.size | omega
  clear hb
  by_cases hgd0 : (60 : Int) < (N : Int)
  · go_wp2
    go_ret
    exact ⟨rfl, HB.out⟩
  by_cases hgd1 : D < 1
  · go_wp2
    go_ret
    exact ⟨rfl, HB.out⟩
  by_cases hgd2 : 8 < D
  · go_wp2
    go_ret
    exact ⟨rfl, HB.out⟩
  by_cases hgd3 : C0 < 0
  · go_wp2
    go_ret
    exact ⟨rfl, HB.out⟩
  by_cases hgd4 : D < C0
  · go_wp2
    go_ret
    exact ⟨rfl, HB.out⟩
  have FL1 := hid trivial
  have FL2 := hid trivial
  go_wp2_with (first
    | (have hfl := FL1.out
       refine wpList_new rfl 24 rfl _ Try.zeroSe ?_
       intro v2 b h z
       have BB := hid (show BoxAt v2 v1.heap.size 24 #[.int .i64 0, .int .i64 0, .bool false, .slice none 0 0] from b)
       have HB := hid (HB.out.trans (h.mono HB.out.size))
       have hsv2 : v1.heap.size + 1 ≤ v2.heap.size := by first | exact h.size | omega
       clear b h z hfl FL1)
    | (have hfl := FL2.out
       refine wpList_store_whole rfl 24 _ _ rfl rfl (v1.heap.size) rfl [.int .i64 C0, .int .i64 D, .bool k, .slice none 0 0] rfl _ _ BB.out rfl Try.infoSe (by simp [Value.oneCell']) ?_
       intro v3 b g z
       have hsv3 : v2.heap.size ≤ v3.heap.size := by omega
       have BB := hid (show BoxAt v3 (v1.heap.size) 24 #[.int .i64 C0, .int .i64 D, .bool k, .slice none 0 0] from b)
       have HB := hid (HB.out.trans (grown_below g (by omega) (by omega)))
       clear b g z hfl FL2
       refine Hid.out ?_)
    | fail)
  refine hid ?_
  go_wp2_with fail
  go_loopw [11, 12] (fun vn t wc => ∃ (i : Nat) (nn : Int) (T : List Wt) (u : Sl), i ≤ N ∧ vn = .int .i64 nn ∧ t = .int .i64 i ∧ 0 ≤ nn ∧ nn ≤ D ∧ (0 < nn → T = []) ∧ T.length ≤ i ∧ BoxAt wc (v1.heap.size) 24 #[.int .i64 nn, .int .i64 D, .bool k, .slice u.a u.n u.c] ∧ OWt wc w.heap.size u.val T ∧ Below w.heap.size w wc) (fun _ t _ => N - (intOf t).toNat)
  case atStart => exact ⟨0, C0, [], ⟨none, 0, 0⟩, by omega, rfl, rfl, by omega, by omega, fun _ => rfl, by simp, BB.out, OWt.nil _ _, HB.out⟩
  case round =>
    clear BB HB
    obtain ⟨i, nn, T, u, hi, rfl, rfl, hn0, hnD, hT, hTn, hbb, hou, hbel⟩ := hrel
    have BB := hid hbb
    have HU := hid hou
    have HT := hid hT
    have HTN := hid hTn
    have HB := hid hbel
    have hsr : v1.heap.size + 1 ≤ wr.heap.size := hbb.lt
    have hsw : w.heap.size ≤ wr.heap.size := hbel.size
    clear hbb hou hbel hT hTn
    by_cases hlt : i < N
    · have HI60 := hid (show i ≤ 60 by omega)
      obtain ⟨bb, off, rfl, hbw, hcell⟩ := HLC.out (by omega)
      have c0 := hid (hcell i hlt 0 (by decide))
      have c1 := hid (hcell i hlt 1 (by decide))
      have c2 := hid (hcell i hlt 2 (by decide))
      have c3 := hid (hcell i hlt 3 (by decide))
      have c4 := hid (hcell i hlt 4 (by decide))
      obtain ⟨y, hy⟩ : ∃ y, l.getD i Opr.zero = y := ⟨_, rfl⟩
      rw [hy] at c0 c1 c2 c3 c4
      clear hy hcell HLC
      obtain ⟨tk, my, y0, y1, y2⟩ := y
      simp only [Opr.cells, List.getD_cons_zero, List.getD_cons_succ, Nat.add_zero] at c0 c1 c2 c3 c4
      have d0 := (HB.out.cell (by exact hbw)).trans c0.out
      rcases tk with _ | _
      · clear d0
        have d0 := (HB.out.cell (by exact hbw)).trans c0.out
        by_cases h0 : 0 < nn
        · have hTe : T = [] := HT.out h0
          subst hTe
          obtain ⟨n1, h1n⟩ : ∃ n1, nn - 1 = n1 := ⟨_, rfl⟩
          have HF := hid (count_take nn n1 ⟨y0, y1, y2⟩ k my h0 (by omega) h1n)
          clear HT
          have hb1 : -9223372036854775808 ≤ n1 := by omega
          have hb2 : n1 ≤ 9223372036854775807 := by omega
          have hw1 : wrap64 (nn - 1) = n1 := by rw [h1n]; exact wrap64_id _ hb1 hb2
          have hw2 : IntKind.i64.wrap (nn - 1) = n1 := by rw [h1n]; exact wrapi_id _ hb1 hb2
          have hne : (n1 != n1) = false := by simp
          clear hb1 hb2
          go_wp2_with fail
          have BB := hid (BoxAt.drew BB.out)
          have HU := hid (HU.out.below ((Below.refl wr.heap.size wr).drew))
          have HB := hid (HB.out.drew)
          have hsv4 : wr.heap.size ≤ wr.drew.heap.size := Nat.le_refl _
          refine wp_region_held_drew (S := (fun w' : World => BoxAt w' (v1.heap.size) 24 #[.int .i64 nn, .int .i64 D, .bool k, .slice u.a u.n u.c] ∧ w'.cell? ⟨bb, off + i * 5 + 1, none⟩ = some (.bool my) ∧ w'.cell? ⟨bb, off + i * 5 + 2, none⟩ = some (.int .i64 y0) ∧ w'.cell? ⟨bb, off + i * 5 + 3, none⟩ = some (.int .i64 y1) ∧ w'.cell? ⟨bb, off + i * 5 + 4, none⟩ = some (.int .i64 y2))) (by kernel_rfl) (⟨BB.out, (HB.out.cell (by exact hbw)).trans c1.out, (HB.out.cell (by exact hbw)).trans c2.out, (HB.out.cell (by exact hbw)).trans c3.out, (HB.out.cell (by exact hbw)).trans c4.out⟩) (fun hHeld => ?_)
          generalize wr.drew = v4 at *
          refine wpAnyH_take (i := 0) (oi := { dst := some 75, op := Op.load 24 (Operand.tmp 10), type := 24, pos := "law.go:57", after := _, guard := none }) (v := ?_) rfl (by kernel_rfl) (by kernel_rfl) (by kernel_rfl) (fun _ _ _ h => h) (Or.inl ⟨by rfl, ?_⟩) (by assumption) ?_
          rotate_left
          · (intro W hSw; (try dsimp only at hSw); obtain ⟨hs0S, hs1S, hs2S, hs3S, hs4S⟩ := hSw; have c0_0 : W.cell? ⟨v1.heap.size, 0, none⟩ = some (.int .i64 nn) := (BoxAt.cell hs0S 0).trans rfl; have c0_1 : W.cell? ⟨v1.heap.size, 1, none⟩ = some (.int .i64 D) := (BoxAt.cell hs0S 1).trans rfl; have c0_2 : W.cell? ⟨v1.heap.size, 2, none⟩ = some (.bool k) := (BoxAt.cell hs0S 2).trans rfl; have c0_3 : W.cell? ⟨v1.heap.size, 3, none⟩ = some (.slice u.a u.n u.c) := (BoxAt.cell hs0S 3).trans rfl; clear hs0S; go_simp; try with_reducible rfl)
          simp only [Act.put, List.setIfInBounds_toArray, List.set_cons_zero, List.set_cons_succ]
          refine wpAnyH_take (i := 1) (oi := { dst := some 76, op := Op.move (Operand.tmp 3), type := 36, pos := "law.go:57", after := _, guard := none }) (v := ?_) rfl (by kernel_rfl) (by kernel_rfl) (by kernel_rfl) (fun _ _ _ h => h) (Or.inl ⟨by rfl, ?_⟩) (by assumption) ?_
          rotate_left
          · (intro w hSw; (try dsimp only at hSw); go_simp; try with_reducible rfl)
          simp only [Act.put, List.setIfInBounds_toArray, List.set_cons_zero, List.set_cons_succ]
          refine wpAnyH_take (i := 2) (oi := { dst := some 77, op := Op.move (Operand.tmp 12), type := 3, pos := "law.go:57", after := _, guard := none }) (v := ?_) rfl (by kernel_rfl) (by kernel_rfl) (by kernel_rfl) (fun _ _ _ h => h) (Or.inl ⟨by rfl, ?_⟩) (by assumption) ?_
          rotate_left
          · (intro w hSw; (try dsimp only at hSw); go_simp; try with_reducible rfl)
          simp only [Act.put, List.setIfInBounds_toArray, List.set_cons_zero, List.set_cons_succ]
          refine wpAnyH_take (i := 3) (oi := { dst := some 78, op := Op.indexAddr 36 (Operand.tmp 76) (Operand.tmp 77), type := 0, pos := "law.go:57", after := _, guard := none }) (v := ?_) rfl (by kernel_rfl) (by kernel_rfl) (by kernel_rfl) (fun _ _ _ h => h) (Or.inl ⟨by rfl, ?_⟩) (by assumption) ?_
          rotate_left
          · (intro w hSw; (try dsimp only at hSw); go_simp; try with_reducible rfl)
          simp only [Act.put, List.setIfInBounds_toArray, List.set_cons_zero, List.set_cons_succ]
          refine wpAnyH_take (i := 4) (oi := { dst := some 79, op := Op.fieldAddr 38 (Operand.tmp 78) 2, type := 0, pos := "law.go:57", after := _, guard := none }) (v := ?_) rfl (by kernel_rfl) (by kernel_rfl) (by kernel_rfl) (fun _ _ _ h => h) (Or.inl ⟨by rfl, ?_⟩) (by assumption) ?_
          rotate_left
          · (intro w hSw; (try dsimp only at hSw); go_simp; try with_reducible rfl)
          simp only [Act.put, List.setIfInBounds_toArray, List.set_cons_zero, List.set_cons_succ]
          refine wpAnyH_take (i := 5) (oi := { dst := some 80, op := Op.load 26 (Operand.tmp 79), type := 26, pos := "law.go:57", after := _, guard := none }) (v := ?_) rfl (by kernel_rfl) (by kernel_rfl) (by kernel_rfl) (fun _ _ _ h => h) (Or.inl ⟨by rfl, ?_⟩) (by assumption) ?_
          rotate_left
          · (intro W hSw; (try dsimp only at hSw); obtain ⟨hs0S, hs1S, hs2S, hs3S, hs4S⟩ := hSw; have c0_0 : W.cell? ⟨v1.heap.size, 0, none⟩ = some (.int .i64 nn) := (BoxAt.cell hs0S 0).trans rfl; have c0_1 : W.cell? ⟨v1.heap.size, 1, none⟩ = some (.int .i64 D) := (BoxAt.cell hs0S 1).trans rfl; have c0_2 : W.cell? ⟨v1.heap.size, 2, none⟩ = some (.bool k) := (BoxAt.cell hs0S 2).trans rfl; have c0_3 : W.cell? ⟨v1.heap.size, 3, none⟩ = some (.slice u.a u.n u.c) := (BoxAt.cell hs0S 3).trans rfl; clear hs0S; go_simp; try with_reducible rfl)
          simp only [Act.put, List.setIfInBounds_toArray, List.set_cons_zero, List.set_cons_succ]
          refine wpAnyH_take (i := 6) (oi := { dst := some 81, op := Op.move (Operand.tmp 3), type := 36, pos := "law.go:57", after := _, guard := none }) (v := ?_) rfl (by kernel_rfl) (by kernel_rfl) (by kernel_rfl) (fun _ _ _ h => h) (Or.inl ⟨by rfl, ?_⟩) (by assumption) ?_
          rotate_left
          · (intro w hSw; (try dsimp only at hSw); go_simp; try with_reducible rfl)
          simp only [Act.put, List.setIfInBounds_toArray, List.set_cons_zero, List.set_cons_succ]
          refine wpAnyH_take (i := 7) (oi := { dst := some 82, op := Op.move (Operand.tmp 12), type := 3, pos := "law.go:57", after := _, guard := none }) (v := ?_) rfl (by kernel_rfl) (by kernel_rfl) (by kernel_rfl) (fun _ _ _ h => h) (Or.inl ⟨by rfl, ?_⟩) (by assumption) ?_
          rotate_left
          · (intro w hSw; (try dsimp only at hSw); go_simp; try with_reducible rfl)
          simp only [Act.put, List.setIfInBounds_toArray, List.set_cons_zero, List.set_cons_succ]
          refine wpAnyH_take (i := 8) (oi := { dst := some 83, op := Op.indexAddr 36 (Operand.tmp 81) (Operand.tmp 82), type := 0, pos := "law.go:57", after := _, guard := none }) (v := ?_) rfl (by kernel_rfl) (by kernel_rfl) (by kernel_rfl) (fun _ _ _ h => h) (Or.inl ⟨by rfl, ?_⟩) (by assumption) ?_
          rotate_left
          · (intro w hSw; (try dsimp only at hSw); go_simp; try with_reducible rfl)
          simp only [Act.put, List.setIfInBounds_toArray, List.set_cons_zero, List.set_cons_succ]
          refine wpAnyH_take (i := 9) (oi := { dst := some 84, op := Op.fieldAddr 38 (Operand.tmp 83) 1, type := 0, pos := "law.go:57", after := _, guard := none }) (v := ?_) rfl (by kernel_rfl) (by kernel_rfl) (by kernel_rfl) (fun _ _ _ h => h) (Or.inl ⟨by rfl, ?_⟩) (by assumption) ?_
          rotate_left
          · (intro w hSw; (try dsimp only at hSw); go_simp; try with_reducible rfl)
          simp only [Act.put, List.setIfInBounds_toArray, List.set_cons_zero, List.set_cons_succ]
          refine wpAnyH_take (i := 10) (oi := { dst := some 85, op := Op.load 4 (Operand.tmp 84), type := 4, pos := "law.go:57", after := _, guard := none }) (v := ?_) rfl (by kernel_rfl) (by kernel_rfl) (by kernel_rfl) (fun _ _ _ h => h) (Or.inl ⟨by rfl, ?_⟩) (by assumption) ?_
          rotate_left
          · (intro W hSw; (try dsimp only at hSw); obtain ⟨hs0S, hs1S, hs2S, hs3S, hs4S⟩ := hSw; have c0_0 : W.cell? ⟨v1.heap.size, 0, none⟩ = some (.int .i64 nn) := (BoxAt.cell hs0S 0).trans rfl; have c0_1 : W.cell? ⟨v1.heap.size, 1, none⟩ = some (.int .i64 D) := (BoxAt.cell hs0S 1).trans rfl; have c0_2 : W.cell? ⟨v1.heap.size, 2, none⟩ = some (.bool k) := (BoxAt.cell hs0S 2).trans rfl; have c0_3 : W.cell? ⟨v1.heap.size, 3, none⟩ = some (.slice u.a u.n u.c) := (BoxAt.cell hs0S 3).trans rfl; clear hs0S; go_simp; try with_reducible rfl)
          simp only [Act.put, List.setIfInBounds_toArray, List.set_cons_zero, List.set_cons_succ]
          refine wpAnyH_ready (rs := [11, 15]) (by kernel_rfl) (by simp) (AllReadyH.cons (o := { dst := some 86, op := Op.call { callee := Callee.value (Operand.func 9), args := #[Operand.tmp 75, Operand.tmp 80, Operand.tmp 85], argTypes := #[24, 26, 4] }, type := 28, pos := "law.go:57", after := _, guard := none }) rfl (fun K1012 hK1012 => ?b1012_11) (AllReadyH.cons (o := { dst := some 16, op := Op.alloc 24, type := 0, pos := "law.go:57", after := _, guard := none }) rfl (fun K1012 hK1012 => ?b1012_15) AllReadyH.nil))
          case' b1012_11 =>
            have HBs := HB.out.size
            go_simp
            refine (get_any nn D k y0 y1 y2 my (s := u) (l := []) HU.out.sees (by simp)).mono ?_
            rintro e v5 ⟨u3, rfl, hu, hb⟩
            have BB := hid (BB.out.belowAll hb)
            have HU := hid (HU.out.below hb)
            have HB := hid (HB.out.trans (hb.mono HB.out.size))
            have hsv5 : v4.heap.size ≤ v5.heap.size := by first | exact hb.size | omega
            rw [HF.out.1, HF.out.2.1]
            rw [HF.out.2.2] at hu
            have hun : u3.n = 0 := hu.n
            have HU3 := hid (hu.mono HBs)
            obtain ⟨ua, un, uc⟩ := u3
            simp only at hun
            subst hun
            clear hu HBs HU
            clear hb
            refine hK1012.out _ _ (⟨BB.out, (HB.out.cell (by exact hbw)).trans c1.out, (HB.out.cell (by exact hbw)).trans c2.out, (HB.out.cell (by exact hbw)).trans c3.out, (HB.out.cell (by exact hbw)).trans c4.out⟩) (fun hHeld1012 => ?_)
            clear hK1012 K1012
            try simp only [Act.put, List.setIfInBounds_toArray, List.set_cons_zero, List.set_cons_succ]
            refine wpAnyH_take (i := 12) (oi := { dst := some 74, op := Op.move (Operand.tmp 86), type := 28, pos := "law.go:57", after := _, guard := none }) (v := ?_) rfl (by kernel_rfl) (by kernel_rfl) (by kernel_rfl) (fun _ _ _ h => h) (Or.inl ⟨by rfl, ?_⟩) (by assumption) ?_
            rotate_left
            · (intro w hSw; (try dsimp only at hSw); go_simp; try with_reducible rfl)
            simp only [Act.put, List.setIfInBounds_toArray, List.set_cons_zero, List.set_cons_succ]
            refine wpAnyH_take (i := 13) (oi := { dst := some 87, op := Op.extract (Operand.tmp 74) 0, type := 24, pos := "law.go:57", after := _, guard := none }) (v := ?_) rfl (by kernel_rfl) (by kernel_rfl) (by kernel_rfl) (fun _ _ _ h => h) (Or.inl ⟨by rfl, ?_⟩) (by assumption) ?_
            rotate_left
            · (intro w hSw; (try dsimp only at hSw); go_simp; try with_reducible rfl)
            simp only [Act.put, List.setIfInBounds_toArray, List.set_cons_zero, List.set_cons_succ]
            refine wpAnyH_take (i := 14) (oi := { dst := some 88, op := Op.extract (Operand.tmp 74) 1, type := 3, pos := "law.go:57", after := _, guard := none }) (v := ?_) rfl (by kernel_rfl) (by kernel_rfl) (by kernel_rfl) (fun _ _ _ h => h) (Or.inl ⟨by rfl, ?_⟩) (by assumption) ?_
            rotate_left
            · (intro w hSw; (try dsimp only at hSw); go_simp; try with_reducible rfl)
            simp only [Act.put, List.setIfInBounds_toArray, List.set_cons_zero, List.set_cons_succ]
            refine wpAnyH_ready (rs := [15]) (by kernel_rfl) (by simp) (AllReadyH.cons (o := { dst := some 16, op := Op.alloc 24, type := 0, pos := "law.go:57", after := _, guard := none }) rfl (fun K1016 hK1016 => ?_) AllReadyH.nil)
            refine step_new rfl 24 rfl _ Try.zeroSe ?_
            intro v6 b h z
            have CB := hid (show BoxAt v6 v5.heap.size 24 #[.int .i64 0, .int .i64 0, .bool false, .slice none 0 0] from b)
            have BB := hid (BB.out.belowAll h)
            have HU3 := hid (HU3.out.below h)
            have HB := hid (HB.out.trans (h.mono HB.out.size))
            have hsv6 : v5.heap.size + 1 ≤ v6.heap.size := by first | exact h.size | omega
            clear b h z
            refine hK1016.out _ _ (⟨BB.out, (HB.out.cell (by exact hbw)).trans c1.out, (HB.out.cell (by exact hbw)).trans c2.out, (HB.out.cell (by exact hbw)).trans c3.out, (HB.out.cell (by exact hbw)).trans c4.out⟩) (fun hHeld1016 => ?_)
            clear hK1016 K1016
            try simp only [Act.put, List.setIfInBounds_toArray, List.set_cons_zero, List.set_cons_succ]
            refine wpAnyH_ready (rs := [16]) (by kernel_rfl) (by simp) (AllReadyH.cons (o := { dst := none, op := Op.store 24 (Operand.tmp 16) (Operand.tmp 87), type := 0, pos := "law.go:57", after := _, guard := none }) rfl (fun K1017 hK1017 => ?_) AllReadyH.nil)
            refine step_store_whole rfl 24 _ _ rfl (v5.heap.size) rfl [.int .i64 n1, .int .i64 D, .bool k, .slice ua 0 uc] rfl _ _ CB.out rfl Try.infoSe (by simp [Value.oneCell']) ?_
            intro v7 b g z
            have hsv7 : v6.heap.size ≤ v7.heap.size := by omega
            have HU3 := hid (HU3.out.put g CB.out (by decide))
            have CB := hid (show BoxAt v7 (v5.heap.size) 24 #[.int .i64 n1, .int .i64 D, .bool k, .slice ua 0 uc] from b)
            have BB := hid (BB.out.grown g (fun e => by have := Option.some.inj e; omega))
            have HB := hid (HB.out.trans (grown_below g (by omega) (by omega)))
            clear b g z
            refine hK1017.out _ _ (⟨BB.out, (HB.out.cell (by exact hbw)).trans c1.out, (HB.out.cell (by exact hbw)).trans c2.out, (HB.out.cell (by exact hbw)).trans c3.out, (HB.out.cell (by exact hbw)).trans c4.out⟩) (fun hHeld1017 => ?_)
            clear hK1017 K1017
            try simp only [Act.put]
            refine wpAnyH_take (i := 17) (oi := { dst := some 17, op := Op.assign (Operand.tmp 88), type := 3, pos := "law.go:57", after := _, guard := none }) (v := ?_) rfl (by kernel_rfl) (by kernel_rfl) (by kernel_rfl) (fun _ _ _ h => h) (Or.inl ⟨by rfl, ?_⟩) (by assumption) ?_
            rotate_left
            · (intro w hSw; (try dsimp only at hSw); go_simp; try with_reducible rfl)
            simp only [Act.put, List.setIfInBounds_toArray, List.set_cons_zero, List.set_cons_succ]
            refine wpAnyH_done (by kernel_rfl) ?_ _
            clear hHeld hHeld1012 hHeld1016 hHeld1017
            have FL3 := hid trivial
            go_wp2_with (first
              | (refine wpList_load_box rfl 24 _ rfl (v5.heap.size) rfl _ _ CB.out _ Try.underlying24 Try.infoSe ?_)
              | (have hfl := FL3.out
                 refine wpList_store_whole rfl 24 _ _ rfl rfl (v1.heap.size) rfl [.int .i64 n1, .int .i64 D, .bool k, .slice ua 0 uc] rfl _ _ BB.out rfl Try.infoSe (by simp [Value.oneCell']) ?_
                 intro v8 b g z
                 have hsv8 : v7.heap.size ≤ v8.heap.size := by omega
                 have HU3 := hid (HU3.out.put g BB.out (by decide))
                 have BB := hid (show BoxAt v8 (v1.heap.size) 24 #[.int .i64 n1, .int .i64 D, .bool k, .slice ua 0 uc] from b)
                 have CB := hid (CB.out.grown g (fun e => by have := Option.some.inj e; omega))
                 have HB := hid (HB.out.trans (grown_below g (by omega) (by omega)))
                 have kBB0 : v8.cell? ⟨v1.heap.size, 0, none⟩ = some (.int .i64 n1) := (BoxAt.cell BB.out 0).trans rfl
                 have kBB3 : v8.cell? ⟨v1.heap.size, 3, none⟩ = some (.slice ua 0 uc) := (BoxAt.cell BB.out 3).trans rfl
                 clear b g z hfl FL3
                 refine Hid.out ?_)
              | fail)
            refine hid ?_
            clear kBB0 kBB3
            have kBB0 : v8.cell? ⟨v1.heap.size, 0, none⟩ = some (.int .i64 n1) := (BoxAt.cell BB.out 0).trans rfl
            have kBB3 : v8.cell? ⟨v1.heap.size, 3, none⟩ = some (.slice ua 0 uc) := (BoxAt.cell BB.out 3).trans rfl
            by_cases hz1 : 0 < n1
            · go_wp2_with fail
              go_roundw
              case rel => exact ⟨i + 1, n1, [], ⟨ua, 0, uc⟩, by omega, by go_num, by go_num, by omega, by omega, fun _ => rfl, by simp, BB.out, HU3.out, HB.out⟩
              case measure => simp [intOf]; omega
            go_wp2_with fail
            go_roundw
            case rel => exact ⟨i + 1, n1, [], ⟨ua, 0, uc⟩, by omega, by go_num, by go_num, by omega, by omega, fun _ => rfl, by simp, BB.out, HU3.out, HB.out⟩
            case measure => simp [intOf]; omega
          case' b1012_15 =>
            refine step_new rfl 24 rfl _ Try.zeroSe ?_
            intro v5 b h z
            have CB := hid (show BoxAt v5 v4.heap.size 24 #[.int .i64 0, .int .i64 0, .bool false, .slice none 0 0] from b)
            have BB := hid (BB.out.belowAll h)
            have HU := hid (HU.out.below h)
            have HB := hid (HB.out.trans (h.mono HB.out.size))
            have hsv5 : v4.heap.size + 1 ≤ v5.heap.size := by first | exact h.size | omega
            clear b h z
            refine hK1012.out _ _ (⟨BB.out, (HB.out.cell (by exact hbw)).trans c1.out, (HB.out.cell (by exact hbw)).trans c2.out, (HB.out.cell (by exact hbw)).trans c3.out, (HB.out.cell (by exact hbw)).trans c4.out⟩) (fun hHeld1012 => ?_)
            clear hK1012 K1012
            try simp only [Act.put, List.setIfInBounds_toArray, List.set_cons_zero, List.set_cons_succ]
            refine wpAnyH_ready (rs := [11]) (by kernel_rfl) (by simp) (AllReadyH.cons (o := { dst := some 86, op := Op.call { callee := Callee.value (Operand.func 9), args := #[Operand.tmp 75, Operand.tmp 80, Operand.tmp 85], argTypes := #[24, 26, 4] }, type := 28, pos := "law.go:57", after := _, guard := none }) rfl (fun K1019 hK1019 => ?_) AllReadyH.nil)
            have HBs := HB.out.size
            go_simp
            refine (get_any nn D k y0 y1 y2 my (s := u) (l := []) HU.out.sees (by simp)).mono ?_
            rintro e v6 ⟨u3, rfl, hu, hb⟩
            have BB := hid (BB.out.belowAll hb)
            have CB := hid (CB.out.belowAll hb)
            have HU := hid (HU.out.below hb)
            have HB := hid (HB.out.trans (hb.mono HB.out.size))
            have hsv6 : v5.heap.size ≤ v6.heap.size := by first | exact hb.size | omega
            rw [HF.out.1, HF.out.2.1]
            rw [HF.out.2.2] at hu
            have hun : u3.n = 0 := hu.n
            have HU3 := hid (hu.mono HBs)
            obtain ⟨ua, un, uc⟩ := u3
            simp only at hun
            subst hun
            clear hu HBs HU
            clear hb
            refine hK1019.out _ _ (⟨BB.out, (HB.out.cell (by exact hbw)).trans c1.out, (HB.out.cell (by exact hbw)).trans c2.out, (HB.out.cell (by exact hbw)).trans c3.out, (HB.out.cell (by exact hbw)).trans c4.out⟩) (fun hHeld1019 => ?_)
            clear hK1019 K1019
            try simp only [Act.put, List.setIfInBounds_toArray, List.set_cons_zero, List.set_cons_succ]
            refine wpAnyH_take (i := 12) (oi := { dst := some 74, op := Op.move (Operand.tmp 86), type := 28, pos := "law.go:57", after := _, guard := none }) (v := ?_) rfl (by kernel_rfl) (by kernel_rfl) (by kernel_rfl) (fun _ _ _ h => h) (Or.inl ⟨by rfl, ?_⟩) (by assumption) ?_
            rotate_left
            · (intro w hSw; (try dsimp only at hSw); go_simp; try with_reducible rfl)
            simp only [Act.put, List.setIfInBounds_toArray, List.set_cons_zero, List.set_cons_succ]
            refine wpAnyH_take (i := 13) (oi := { dst := some 87, op := Op.extract (Operand.tmp 74) 0, type := 24, pos := "law.go:57", after := _, guard := none }) (v := ?_) rfl (by kernel_rfl) (by kernel_rfl) (by kernel_rfl) (fun _ _ _ h => h) (Or.inl ⟨by rfl, ?_⟩) (by assumption) ?_
            rotate_left
            · (intro w hSw; (try dsimp only at hSw); go_simp; try with_reducible rfl)
            simp only [Act.put, List.setIfInBounds_toArray, List.set_cons_zero, List.set_cons_succ]
            refine wpAnyH_take (i := 14) (oi := { dst := some 88, op := Op.extract (Operand.tmp 74) 1, type := 3, pos := "law.go:57", after := _, guard := none }) (v := ?_) rfl (by kernel_rfl) (by kernel_rfl) (by kernel_rfl) (fun _ _ _ h => h) (Or.inl ⟨by rfl, ?_⟩) (by assumption) ?_
            rotate_left
            · (intro w hSw; (try dsimp only at hSw); go_simp; try with_reducible rfl)
            simp only [Act.put, List.setIfInBounds_toArray, List.set_cons_zero, List.set_cons_succ]
            refine wpAnyH_ready (rs := [16]) (by kernel_rfl) (by simp) (AllReadyH.cons (o := { dst := none, op := Op.store 24 (Operand.tmp 16) (Operand.tmp 87), type := 0, pos := "law.go:57", after := _, guard := none }) rfl (fun K1023 hK1023 => ?_) AllReadyH.nil)
            refine step_store_whole rfl 24 _ _ rfl (v4.heap.size) rfl [.int .i64 n1, .int .i64 D, .bool k, .slice ua 0 uc] rfl _ _ CB.out rfl Try.infoSe (by simp [Value.oneCell']) ?_
            intro v7 b g z
            have hsv7 : v6.heap.size ≤ v7.heap.size := by omega
            have HU3 := hid (HU3.out.put g CB.out (by decide))
            have CB := hid (show BoxAt v7 (v4.heap.size) 24 #[.int .i64 n1, .int .i64 D, .bool k, .slice ua 0 uc] from b)
            have BB := hid (BB.out.grown g (fun e => by have := Option.some.inj e; omega))
            have HB := hid (HB.out.trans (grown_below g (by omega) (by omega)))
            clear b g z
            refine hK1023.out _ _ (⟨BB.out, (HB.out.cell (by exact hbw)).trans c1.out, (HB.out.cell (by exact hbw)).trans c2.out, (HB.out.cell (by exact hbw)).trans c3.out, (HB.out.cell (by exact hbw)).trans c4.out⟩) (fun hHeld1023 => ?_)
            clear hK1023 K1023
            try simp only [Act.put]
            refine wpAnyH_take (i := 17) (oi := { dst := some 17, op := Op.assign (Operand.tmp 88), type := 3, pos := "law.go:57", after := _, guard := none }) (v := ?_) rfl (by kernel_rfl) (by kernel_rfl) (by kernel_rfl) (fun _ _ _ h => h) (Or.inl ⟨by rfl, ?_⟩) (by assumption) ?_
            rotate_left
            · (intro w hSw; (try dsimp only at hSw); go_simp; try with_reducible rfl)
            simp only [Act.put, List.setIfInBounds_toArray, List.set_cons_zero, List.set_cons_succ]
            refine wpAnyH_done (by kernel_rfl) ?_ _
            clear hHeld hHeld1012 hHeld1019 hHeld1023
            have FL3 := hid trivial
            go_wp2_with (first
              | (refine wpList_load_box rfl 24 _ rfl (v4.heap.size) rfl _ _ CB.out _ Try.underlying24 Try.infoSe ?_)
              | (have hfl := FL3.out
                 refine wpList_store_whole rfl 24 _ _ rfl rfl (v1.heap.size) rfl [.int .i64 n1, .int .i64 D, .bool k, .slice ua 0 uc] rfl _ _ BB.out rfl Try.infoSe (by simp [Value.oneCell']) ?_
                 intro v8 b g z
                 have hsv8 : v7.heap.size ≤ v8.heap.size := by omega
                 have HU3 := hid (HU3.out.put g BB.out (by decide))
                 have BB := hid (show BoxAt v8 (v1.heap.size) 24 #[.int .i64 n1, .int .i64 D, .bool k, .slice ua 0 uc] from b)
                 have CB := hid (CB.out.grown g (fun e => by have := Option.some.inj e; omega))
                 have HB := hid (HB.out.trans (grown_below g (by omega) (by omega)))
                 have kBB0 : v8.cell? ⟨v1.heap.size, 0, none⟩ = some (.int .i64 n1) := (BoxAt.cell BB.out 0).trans rfl
                 have kBB3 : v8.cell? ⟨v1.heap.size, 3, none⟩ = some (.slice ua 0 uc) := (BoxAt.cell BB.out 3).trans rfl
                 clear b g z hfl FL3
                 refine Hid.out ?_)
              | fail)
            refine hid ?_
            clear kBB0 kBB3
            have kBB0 : v8.cell? ⟨v1.heap.size, 0, none⟩ = some (.int .i64 n1) := (BoxAt.cell BB.out 0).trans rfl
            have kBB3 : v8.cell? ⟨v1.heap.size, 3, none⟩ = some (.slice ua 0 uc) := (BoxAt.cell BB.out 3).trans rfl
            by_cases hz1 : 0 < n1
            · go_wp2_with fail
              go_roundw
              case rel => exact ⟨i + 1, n1, [], ⟨ua, 0, uc⟩, by omega, by go_num, by go_num, by omega, by omega, fun _ => rfl, by simp, BB.out, HU3.out, HB.out⟩
              case measure => simp [intOf]; omega
            go_wp2_with fail
            go_roundw
            case rel => exact ⟨i + 1, n1, [], ⟨ua, 0, uc⟩, by omega, by go_num, by go_num, by omega, by omega, fun _ => rfl, by simp, BB.out, HU3.out, HB.out⟩
            case measure => simp [intOf]; omega
        · have hn : nn = 0 := by omega
          subst hn
          obtain ⟨GC, hGC⟩ : ∃ cc, getC 0 my = cc := ⟨_, rfl⟩
          obtain ⟨L1, hL1⟩ : ∃ cc, getL 0 k T ⟨y0, y1, y2⟩ my = cc := ⟨_, rfl⟩
          have HF := hid (count_wait T ⟨y0, y1, y2⟩ k my)
          rw [hGC, hL1] at HF
          have hcc : (GC == 0) = false := HF.out.2.1
          have HL1 := hid HF.out.2.2
          clear HT
          go_wp2_with fail
          have BB := hid (BoxAt.drew BB.out)
          have HU := hid (HU.out.below ((Below.refl wr.heap.size wr).drew))
          have HB := hid (HB.out.drew)
          have hsv4 : wr.heap.size ≤ wr.drew.heap.size := Nat.le_refl _
          refine wp_region_held_drew (S := (fun w' : World => BoxAt w' (v1.heap.size) 24 #[.int .i64 0, .int .i64 D, .bool k, .slice u.a u.n u.c] ∧ w'.cell? ⟨bb, off + i * 5 + 1, none⟩ = some (.bool my) ∧ w'.cell? ⟨bb, off + i * 5 + 2, none⟩ = some (.int .i64 y0) ∧ w'.cell? ⟨bb, off + i * 5 + 3, none⟩ = some (.int .i64 y1) ∧ w'.cell? ⟨bb, off + i * 5 + 4, none⟩ = some (.int .i64 y2))) (by kernel_rfl) (⟨BB.out, (HB.out.cell (by exact hbw)).trans c1.out, (HB.out.cell (by exact hbw)).trans c2.out, (HB.out.cell (by exact hbw)).trans c3.out, (HB.out.cell (by exact hbw)).trans c4.out⟩) (fun hHeld => ?_)
          generalize wr.drew = v4 at *
          refine wpAnyH_take (i := 0) (oi := { dst := some 75, op := Op.load 24 (Operand.tmp 10), type := 24, pos := "law.go:57", after := _, guard := none }) (v := ?_) rfl (by kernel_rfl) (by kernel_rfl) (by kernel_rfl) (fun _ _ _ h => h) (Or.inl ⟨by rfl, ?_⟩) (by assumption) ?_
          rotate_left
          · (intro W hSw; (try dsimp only at hSw); obtain ⟨hs0S, hs1S, hs2S, hs3S, hs4S⟩ := hSw; have c0_0 : W.cell? ⟨v1.heap.size, 0, none⟩ = some (.int .i64 0) := (BoxAt.cell hs0S 0).trans rfl; have c0_1 : W.cell? ⟨v1.heap.size, 1, none⟩ = some (.int .i64 D) := (BoxAt.cell hs0S 1).trans rfl; have c0_2 : W.cell? ⟨v1.heap.size, 2, none⟩ = some (.bool k) := (BoxAt.cell hs0S 2).trans rfl; have c0_3 : W.cell? ⟨v1.heap.size, 3, none⟩ = some (.slice u.a u.n u.c) := (BoxAt.cell hs0S 3).trans rfl; clear hs0S; go_simp; try with_reducible rfl)
          simp only [Act.put, List.setIfInBounds_toArray, List.set_cons_zero, List.set_cons_succ]
          refine wpAnyH_take (i := 1) (oi := { dst := some 76, op := Op.move (Operand.tmp 3), type := 36, pos := "law.go:57", after := _, guard := none }) (v := ?_) rfl (by kernel_rfl) (by kernel_rfl) (by kernel_rfl) (fun _ _ _ h => h) (Or.inl ⟨by rfl, ?_⟩) (by assumption) ?_
          rotate_left
          · (intro w hSw; (try dsimp only at hSw); go_simp; try with_reducible rfl)
          simp only [Act.put, List.setIfInBounds_toArray, List.set_cons_zero, List.set_cons_succ]
          refine wpAnyH_take (i := 2) (oi := { dst := some 77, op := Op.move (Operand.tmp 12), type := 3, pos := "law.go:57", after := _, guard := none }) (v := ?_) rfl (by kernel_rfl) (by kernel_rfl) (by kernel_rfl) (fun _ _ _ h => h) (Or.inl ⟨by rfl, ?_⟩) (by assumption) ?_
          rotate_left
          · (intro w hSw; (try dsimp only at hSw); go_simp; try with_reducible rfl)
          simp only [Act.put, List.setIfInBounds_toArray, List.set_cons_zero, List.set_cons_succ]
          refine wpAnyH_take (i := 3) (oi := { dst := some 78, op := Op.indexAddr 36 (Operand.tmp 76) (Operand.tmp 77), type := 0, pos := "law.go:57", after := _, guard := none }) (v := ?_) rfl (by kernel_rfl) (by kernel_rfl) (by kernel_rfl) (fun _ _ _ h => h) (Or.inl ⟨by rfl, ?_⟩) (by assumption) ?_
          rotate_left
          · (intro w hSw; (try dsimp only at hSw); go_simp; try with_reducible rfl)
          simp only [Act.put, List.setIfInBounds_toArray, List.set_cons_zero, List.set_cons_succ]
          refine wpAnyH_take (i := 4) (oi := { dst := some 79, op := Op.fieldAddr 38 (Operand.tmp 78) 2, type := 0, pos := "law.go:57", after := _, guard := none }) (v := ?_) rfl (by kernel_rfl) (by kernel_rfl) (by kernel_rfl) (fun _ _ _ h => h) (Or.inl ⟨by rfl, ?_⟩) (by assumption) ?_
          rotate_left
          · (intro w hSw; (try dsimp only at hSw); go_simp; try with_reducible rfl)
          simp only [Act.put, List.setIfInBounds_toArray, List.set_cons_zero, List.set_cons_succ]
          refine wpAnyH_take (i := 5) (oi := { dst := some 80, op := Op.load 26 (Operand.tmp 79), type := 26, pos := "law.go:57", after := _, guard := none }) (v := ?_) rfl (by kernel_rfl) (by kernel_rfl) (by kernel_rfl) (fun _ _ _ h => h) (Or.inl ⟨by rfl, ?_⟩) (by assumption) ?_
          rotate_left
          · (intro W hSw; (try dsimp only at hSw); obtain ⟨hs0S, hs1S, hs2S, hs3S, hs4S⟩ := hSw; have c0_0 : W.cell? ⟨v1.heap.size, 0, none⟩ = some (.int .i64 0) := (BoxAt.cell hs0S 0).trans rfl; have c0_1 : W.cell? ⟨v1.heap.size, 1, none⟩ = some (.int .i64 D) := (BoxAt.cell hs0S 1).trans rfl; have c0_2 : W.cell? ⟨v1.heap.size, 2, none⟩ = some (.bool k) := (BoxAt.cell hs0S 2).trans rfl; have c0_3 : W.cell? ⟨v1.heap.size, 3, none⟩ = some (.slice u.a u.n u.c) := (BoxAt.cell hs0S 3).trans rfl; clear hs0S; go_simp; try with_reducible rfl)
          simp only [Act.put, List.setIfInBounds_toArray, List.set_cons_zero, List.set_cons_succ]
          refine wpAnyH_take (i := 6) (oi := { dst := some 81, op := Op.move (Operand.tmp 3), type := 36, pos := "law.go:57", after := _, guard := none }) (v := ?_) rfl (by kernel_rfl) (by kernel_rfl) (by kernel_rfl) (fun _ _ _ h => h) (Or.inl ⟨by rfl, ?_⟩) (by assumption) ?_
          rotate_left
          · (intro w hSw; (try dsimp only at hSw); go_simp; try with_reducible rfl)
          simp only [Act.put, List.setIfInBounds_toArray, List.set_cons_zero, List.set_cons_succ]
          refine wpAnyH_take (i := 7) (oi := { dst := some 82, op := Op.move (Operand.tmp 12), type := 3, pos := "law.go:57", after := _, guard := none }) (v := ?_) rfl (by kernel_rfl) (by kernel_rfl) (by kernel_rfl) (fun _ _ _ h => h) (Or.inl ⟨by rfl, ?_⟩) (by assumption) ?_
          rotate_left
          · (intro w hSw; (try dsimp only at hSw); go_simp; try with_reducible rfl)
          simp only [Act.put, List.setIfInBounds_toArray, List.set_cons_zero, List.set_cons_succ]
          refine wpAnyH_take (i := 8) (oi := { dst := some 83, op := Op.indexAddr 36 (Operand.tmp 81) (Operand.tmp 82), type := 0, pos := "law.go:57", after := _, guard := none }) (v := ?_) rfl (by kernel_rfl) (by kernel_rfl) (by kernel_rfl) (fun _ _ _ h => h) (Or.inl ⟨by rfl, ?_⟩) (by assumption) ?_
          rotate_left
          · (intro w hSw; (try dsimp only at hSw); go_simp; try with_reducible rfl)
          simp only [Act.put, List.setIfInBounds_toArray, List.set_cons_zero, List.set_cons_succ]
          refine wpAnyH_take (i := 9) (oi := { dst := some 84, op := Op.fieldAddr 38 (Operand.tmp 83) 1, type := 0, pos := "law.go:57", after := _, guard := none }) (v := ?_) rfl (by kernel_rfl) (by kernel_rfl) (by kernel_rfl) (fun _ _ _ h => h) (Or.inl ⟨by rfl, ?_⟩) (by assumption) ?_
          rotate_left
          · (intro w hSw; (try dsimp only at hSw); go_simp; try with_reducible rfl)
          simp only [Act.put, List.setIfInBounds_toArray, List.set_cons_zero, List.set_cons_succ]
          refine wpAnyH_take (i := 10) (oi := { dst := some 85, op := Op.load 4 (Operand.tmp 84), type := 4, pos := "law.go:57", after := _, guard := none }) (v := ?_) rfl (by kernel_rfl) (by kernel_rfl) (by kernel_rfl) (fun _ _ _ h => h) (Or.inl ⟨by rfl, ?_⟩) (by assumption) ?_
          rotate_left
          · (intro W hSw; (try dsimp only at hSw); obtain ⟨hs0S, hs1S, hs2S, hs3S, hs4S⟩ := hSw; have c0_0 : W.cell? ⟨v1.heap.size, 0, none⟩ = some (.int .i64 0) := (BoxAt.cell hs0S 0).trans rfl; have c0_1 : W.cell? ⟨v1.heap.size, 1, none⟩ = some (.int .i64 D) := (BoxAt.cell hs0S 1).trans rfl; have c0_2 : W.cell? ⟨v1.heap.size, 2, none⟩ = some (.bool k) := (BoxAt.cell hs0S 2).trans rfl; have c0_3 : W.cell? ⟨v1.heap.size, 3, none⟩ = some (.slice u.a u.n u.c) := (BoxAt.cell hs0S 3).trans rfl; clear hs0S; go_simp; try with_reducible rfl)
          simp only [Act.put, List.setIfInBounds_toArray, List.set_cons_zero, List.set_cons_succ]
          refine wpAnyH_ready (rs := [11, 15]) (by kernel_rfl) (by simp) (AllReadyH.cons (o := { dst := some 86, op := Op.call { callee := Callee.value (Operand.func 9), args := #[Operand.tmp 75, Operand.tmp 80, Operand.tmp 85], argTypes := #[24, 26, 4] }, type := 28, pos := "law.go:57", after := _, guard := none }) rfl (fun K2012 hK2012 => ?b2012_11) (AllReadyH.cons (o := { dst := some 16, op := Op.alloc 24, type := 0, pos := "law.go:57", after := _, guard := none }) rfl (fun K2012 hK2012 => ?b2012_15) AllReadyH.nil))
          case' b2012_11 =>
            have HBs := HB.out.size
            go_simp
            refine (get_any 0 D k y0 y1 y2 my (s := u) (l := T) HU.out.sees (by have := HTN.out; have := HI60.out; omega)).mono ?_
            rintro e v5 ⟨u3, rfl, hu, hb⟩
            have BB := hid (BB.out.belowAll hb)
            have HU := hid (HU.out.below hb)
            have HB := hid (HB.out.trans (hb.mono HB.out.size))
            have hsv5 : v4.heap.size ≤ v5.heap.size := by first | exact hb.size | omega
            rw [HF.out.1, hGC]
            rw [hL1] at hu
            have HU3 := hid (hu.mono HBs)
            obtain ⟨ua, un, uc⟩ := u3
            clear hu HBs HU
            clear hb
            refine hK2012.out _ _ (⟨BB.out, (HB.out.cell (by exact hbw)).trans c1.out, (HB.out.cell (by exact hbw)).trans c2.out, (HB.out.cell (by exact hbw)).trans c3.out, (HB.out.cell (by exact hbw)).trans c4.out⟩) (fun hHeld2012 => ?_)
            clear hK2012 K2012
            try simp only [Act.put, List.setIfInBounds_toArray, List.set_cons_zero, List.set_cons_succ]
            refine wpAnyH_take (i := 12) (oi := { dst := some 74, op := Op.move (Operand.tmp 86), type := 28, pos := "law.go:57", after := _, guard := none }) (v := ?_) rfl (by kernel_rfl) (by kernel_rfl) (by kernel_rfl) (fun _ _ _ h => h) (Or.inl ⟨by rfl, ?_⟩) (by assumption) ?_
            rotate_left
            · (intro w hSw; (try dsimp only at hSw); go_simp; try with_reducible rfl)
            simp only [Act.put, List.setIfInBounds_toArray, List.set_cons_zero, List.set_cons_succ]
            refine wpAnyH_take (i := 13) (oi := { dst := some 87, op := Op.extract (Operand.tmp 74) 0, type := 24, pos := "law.go:57", after := _, guard := none }) (v := ?_) rfl (by kernel_rfl) (by kernel_rfl) (by kernel_rfl) (fun _ _ _ h => h) (Or.inl ⟨by rfl, ?_⟩) (by assumption) ?_
            rotate_left
            · (intro w hSw; (try dsimp only at hSw); go_simp; try with_reducible rfl)
            simp only [Act.put, List.setIfInBounds_toArray, List.set_cons_zero, List.set_cons_succ]
            refine wpAnyH_take (i := 14) (oi := { dst := some 88, op := Op.extract (Operand.tmp 74) 1, type := 3, pos := "law.go:57", after := _, guard := none }) (v := ?_) rfl (by kernel_rfl) (by kernel_rfl) (by kernel_rfl) (fun _ _ _ h => h) (Or.inl ⟨by rfl, ?_⟩) (by assumption) ?_
            rotate_left
            · (intro w hSw; (try dsimp only at hSw); go_simp; try with_reducible rfl)
            simp only [Act.put, List.setIfInBounds_toArray, List.set_cons_zero, List.set_cons_succ]
            refine wpAnyH_ready (rs := [15]) (by kernel_rfl) (by simp) (AllReadyH.cons (o := { dst := some 16, op := Op.alloc 24, type := 0, pos := "law.go:57", after := _, guard := none }) rfl (fun K2016 hK2016 => ?_) AllReadyH.nil)
            refine step_new rfl 24 rfl _ Try.zeroSe ?_
            intro v6 b h z
            have CB := hid (show BoxAt v6 v5.heap.size 24 #[.int .i64 0, .int .i64 0, .bool false, .slice none 0 0] from b)
            have BB := hid (BB.out.belowAll h)
            have HU3 := hid (HU3.out.below h)
            have HB := hid (HB.out.trans (h.mono HB.out.size))
            have hsv6 : v5.heap.size + 1 ≤ v6.heap.size := by first | exact h.size | omega
            clear b h z
            refine hK2016.out _ _ (⟨BB.out, (HB.out.cell (by exact hbw)).trans c1.out, (HB.out.cell (by exact hbw)).trans c2.out, (HB.out.cell (by exact hbw)).trans c3.out, (HB.out.cell (by exact hbw)).trans c4.out⟩) (fun hHeld2016 => ?_)
            clear hK2016 K2016
            try simp only [Act.put, List.setIfInBounds_toArray, List.set_cons_zero, List.set_cons_succ]
            refine wpAnyH_ready (rs := [16]) (by kernel_rfl) (by simp) (AllReadyH.cons (o := { dst := none, op := Op.store 24 (Operand.tmp 16) (Operand.tmp 87), type := 0, pos := "law.go:57", after := _, guard := none }) rfl (fun K2017 hK2017 => ?_) AllReadyH.nil)
            refine step_store_whole rfl 24 _ _ rfl (v5.heap.size) rfl [.int .i64 0, .int .i64 D, .bool k, .slice ua un uc] rfl _ _ CB.out rfl Try.infoSe (by simp [Value.oneCell']) ?_
            intro v7 b g z
            have hsv7 : v6.heap.size ≤ v7.heap.size := by omega
            have HU3 := hid (HU3.out.put g CB.out (by decide))
            have CB := hid (show BoxAt v7 (v5.heap.size) 24 #[.int .i64 0, .int .i64 D, .bool k, .slice ua un uc] from b)
            have BB := hid (BB.out.grown g (fun e => by have := Option.some.inj e; omega))
            have HB := hid (HB.out.trans (grown_below g (by omega) (by omega)))
            clear b g z
            refine hK2017.out _ _ (⟨BB.out, (HB.out.cell (by exact hbw)).trans c1.out, (HB.out.cell (by exact hbw)).trans c2.out, (HB.out.cell (by exact hbw)).trans c3.out, (HB.out.cell (by exact hbw)).trans c4.out⟩) (fun hHeld2017 => ?_)
            clear hK2017 K2017
            try simp only [Act.put]
            refine wpAnyH_take (i := 17) (oi := { dst := some 17, op := Op.assign (Operand.tmp 88), type := 3, pos := "law.go:57", after := _, guard := none }) (v := ?_) rfl (by kernel_rfl) (by kernel_rfl) (by kernel_rfl) (fun _ _ _ h => h) (Or.inl ⟨by rfl, ?_⟩) (by assumption) ?_
            rotate_left
            · (intro w hSw; (try dsimp only at hSw); go_simp; try with_reducible rfl)
            simp only [Act.put, List.setIfInBounds_toArray, List.set_cons_zero, List.set_cons_succ]
            refine wpAnyH_done (by kernel_rfl) ?_ _
            clear hHeld hHeld2012 hHeld2016 hHeld2017
            have FL3 := hid trivial
            go_wp2_with (first
              | (refine wpList_load_box rfl 24 _ rfl (v5.heap.size) rfl _ _ CB.out _ Try.underlying24 Try.infoSe ?_)
              | (have hfl := FL3.out
                 refine wpList_store_whole rfl 24 _ _ rfl rfl (v1.heap.size) rfl [.int .i64 0, .int .i64 D, .bool k, .slice ua un uc] rfl _ _ BB.out rfl Try.infoSe (by simp [Value.oneCell']) ?_
                 intro v8 b g z
                 have hsv8 : v7.heap.size ≤ v8.heap.size := by omega
                 have HU3 := hid (HU3.out.put g BB.out (by decide))
                 have BB := hid (show BoxAt v8 (v1.heap.size) 24 #[.int .i64 0, .int .i64 D, .bool k, .slice ua un uc] from b)
                 have CB := hid (CB.out.grown g (fun e => by have := Option.some.inj e; omega))
                 have HB := hid (HB.out.trans (grown_below g (by omega) (by omega)))
                 have kBB0 : v8.cell? ⟨v1.heap.size, 0, none⟩ = some (.int .i64 0) := (BoxAt.cell BB.out 0).trans rfl
                 have kBB3 : v8.cell? ⟨v1.heap.size, 3, none⟩ = some (.slice ua un uc) := (BoxAt.cell BB.out 3).trans rfl
                 clear b g z hfl FL3
                 refine Hid.out ?_)
              | fail)
            refine hid ?_
            clear kBB0 kBB3
            have kBB0 : v8.cell? ⟨v1.heap.size, 0, none⟩ = some (.int .i64 0) := (BoxAt.cell BB.out 0).trans rfl
            have kBB3 : v8.cell? ⟨v1.heap.size, 3, none⟩ = some (.slice ua un uc) := (BoxAt.cell BB.out 3).trans rfl
            go_wp2_with fail
            go_roundw
            case rel => exact ⟨i + 1, 0, L1, ⟨ua, un, uc⟩, by omega, by go_num, by go_num, by omega, by omega, fun h => by omega, by have := HL1.out; have := HTN.out; omega, BB.out, HU3.out, HB.out⟩
            case measure => simp [intOf]; omega
          case' b2012_15 =>
            refine step_new rfl 24 rfl _ Try.zeroSe ?_
            intro v5 b h z
            have CB := hid (show BoxAt v5 v4.heap.size 24 #[.int .i64 0, .int .i64 0, .bool false, .slice none 0 0] from b)
            have BB := hid (BB.out.belowAll h)
            have HU := hid (HU.out.below h)
            have HB := hid (HB.out.trans (h.mono HB.out.size))
            have hsv5 : v4.heap.size + 1 ≤ v5.heap.size := by first | exact h.size | omega
            clear b h z
            refine hK2012.out _ _ (⟨BB.out, (HB.out.cell (by exact hbw)).trans c1.out, (HB.out.cell (by exact hbw)).trans c2.out, (HB.out.cell (by exact hbw)).trans c3.out, (HB.out.cell (by exact hbw)).trans c4.out⟩) (fun hHeld2012 => ?_)
            clear hK2012 K2012
            try simp only [Act.put, List.setIfInBounds_toArray, List.set_cons_zero, List.set_cons_succ]
            refine wpAnyH_ready (rs := [11]) (by kernel_rfl) (by simp) (AllReadyH.cons (o := { dst := some 86, op := Op.call { callee := Callee.value (Operand.func 9), args := #[Operand.tmp 75, Operand.tmp 80, Operand.tmp 85], argTypes := #[24, 26, 4] }, type := 28, pos := "law.go:57", after := _, guard := none }) rfl (fun K2019 hK2019 => ?_) AllReadyH.nil)
            have HBs := HB.out.size
            go_simp
            refine (get_any 0 D k y0 y1 y2 my (s := u) (l := T) HU.out.sees (by have := HTN.out; have := HI60.out; omega)).mono ?_
            rintro e v6 ⟨u3, rfl, hu, hb⟩
            have BB := hid (BB.out.belowAll hb)
            have CB := hid (CB.out.belowAll hb)
            have HU := hid (HU.out.below hb)
            have HB := hid (HB.out.trans (hb.mono HB.out.size))
            have hsv6 : v5.heap.size ≤ v6.heap.size := by first | exact hb.size | omega
            rw [HF.out.1, hGC]
            rw [hL1] at hu
            have HU3 := hid (hu.mono HBs)
            obtain ⟨ua, un, uc⟩ := u3
            clear hu HBs HU
            clear hb
            refine hK2019.out _ _ (⟨BB.out, (HB.out.cell (by exact hbw)).trans c1.out, (HB.out.cell (by exact hbw)).trans c2.out, (HB.out.cell (by exact hbw)).trans c3.out, (HB.out.cell (by exact hbw)).trans c4.out⟩) (fun hHeld2019 => ?_)
            clear hK2019 K2019
            try simp only [Act.put, List.setIfInBounds_toArray, List.set_cons_zero, List.set_cons_succ]
            refine wpAnyH_take (i := 12) (oi := { dst := some 74, op := Op.move (Operand.tmp 86), type := 28, pos := "law.go:57", after := _, guard := none }) (v := ?_) rfl (by kernel_rfl) (by kernel_rfl) (by kernel_rfl) (fun _ _ _ h => h) (Or.inl ⟨by rfl, ?_⟩) (by assumption) ?_
            rotate_left
            · (intro w hSw; (try dsimp only at hSw); go_simp; try with_reducible rfl)
            simp only [Act.put, List.setIfInBounds_toArray, List.set_cons_zero, List.set_cons_succ]
            refine wpAnyH_take (i := 13) (oi := { dst := some 87, op := Op.extract (Operand.tmp 74) 0, type := 24, pos := "law.go:57", after := _, guard := none }) (v := ?_) rfl (by kernel_rfl) (by kernel_rfl) (by kernel_rfl) (fun _ _ _ h => h) (Or.inl ⟨by rfl, ?_⟩) (by assumption) ?_
            rotate_left
            · (intro w hSw; (try dsimp only at hSw); go_simp; try with_reducible rfl)
            simp only [Act.put, List.setIfInBounds_toArray, List.set_cons_zero, List.set_cons_succ]
            refine wpAnyH_take (i := 14) (oi := { dst := some 88, op := Op.extract (Operand.tmp 74) 1, type := 3, pos := "law.go:57", after := _, guard := none }) (v := ?_) rfl (by kernel_rfl) (by kernel_rfl) (by kernel_rfl) (fun _ _ _ h => h) (Or.inl ⟨by rfl, ?_⟩) (by assumption) ?_
            rotate_left
            · (intro w hSw; (try dsimp only at hSw); go_simp; try with_reducible rfl)
            simp only [Act.put, List.setIfInBounds_toArray, List.set_cons_zero, List.set_cons_succ]
            refine wpAnyH_ready (rs := [16]) (by kernel_rfl) (by simp) (AllReadyH.cons (o := { dst := none, op := Op.store 24 (Operand.tmp 16) (Operand.tmp 87), type := 0, pos := "law.go:57", after := _, guard := none }) rfl (fun K2023 hK2023 => ?_) AllReadyH.nil)
            refine step_store_whole rfl 24 _ _ rfl (v4.heap.size) rfl [.int .i64 0, .int .i64 D, .bool k, .slice ua un uc] rfl _ _ CB.out rfl Try.infoSe (by simp [Value.oneCell']) ?_
            intro v7 b g z
            have hsv7 : v6.heap.size ≤ v7.heap.size := by omega
            have HU3 := hid (HU3.out.put g CB.out (by decide))
            have CB := hid (show BoxAt v7 (v4.heap.size) 24 #[.int .i64 0, .int .i64 D, .bool k, .slice ua un uc] from b)
            have BB := hid (BB.out.grown g (fun e => by have := Option.some.inj e; omega))
            have HB := hid (HB.out.trans (grown_below g (by omega) (by omega)))
            clear b g z
            refine hK2023.out _ _ (⟨BB.out, (HB.out.cell (by exact hbw)).trans c1.out, (HB.out.cell (by exact hbw)).trans c2.out, (HB.out.cell (by exact hbw)).trans c3.out, (HB.out.cell (by exact hbw)).trans c4.out⟩) (fun hHeld2023 => ?_)
            clear hK2023 K2023
            try simp only [Act.put]
            refine wpAnyH_take (i := 17) (oi := { dst := some 17, op := Op.assign (Operand.tmp 88), type := 3, pos := "law.go:57", after := _, guard := none }) (v := ?_) rfl (by kernel_rfl) (by kernel_rfl) (by kernel_rfl) (fun _ _ _ h => h) (Or.inl ⟨by rfl, ?_⟩) (by assumption) ?_
            rotate_left
            · (intro w hSw; (try dsimp only at hSw); go_simp; try with_reducible rfl)
            simp only [Act.put, List.setIfInBounds_toArray, List.set_cons_zero, List.set_cons_succ]
            refine wpAnyH_done (by kernel_rfl) ?_ _
            clear hHeld hHeld2012 hHeld2019 hHeld2023
            have FL3 := hid trivial
            go_wp2_with (first
              | (refine wpList_load_box rfl 24 _ rfl (v4.heap.size) rfl _ _ CB.out _ Try.underlying24 Try.infoSe ?_)
              | (have hfl := FL3.out
                 refine wpList_store_whole rfl 24 _ _ rfl rfl (v1.heap.size) rfl [.int .i64 0, .int .i64 D, .bool k, .slice ua un uc] rfl _ _ BB.out rfl Try.infoSe (by simp [Value.oneCell']) ?_
                 intro v8 b g z
                 have hsv8 : v7.heap.size ≤ v8.heap.size := by omega
                 have HU3 := hid (HU3.out.put g BB.out (by decide))
                 have BB := hid (show BoxAt v8 (v1.heap.size) 24 #[.int .i64 0, .int .i64 D, .bool k, .slice ua un uc] from b)
                 have CB := hid (CB.out.grown g (fun e => by have := Option.some.inj e; omega))
                 have HB := hid (HB.out.trans (grown_below g (by omega) (by omega)))
                 have kBB0 : v8.cell? ⟨v1.heap.size, 0, none⟩ = some (.int .i64 0) := (BoxAt.cell BB.out 0).trans rfl
                 have kBB3 : v8.cell? ⟨v1.heap.size, 3, none⟩ = some (.slice ua un uc) := (BoxAt.cell BB.out 3).trans rfl
                 clear b g z hfl FL3
                 refine Hid.out ?_)
              | fail)
            refine hid ?_
            clear kBB0 kBB3
            have kBB0 : v8.cell? ⟨v1.heap.size, 0, none⟩ = some (.int .i64 0) := (BoxAt.cell BB.out 0).trans rfl
            have kBB3 : v8.cell? ⟨v1.heap.size, 3, none⟩ = some (.slice ua un uc) := (BoxAt.cell BB.out 3).trans rfl
            go_wp2_with fail
            go_roundw
            case rel => exact ⟨i + 1, 0, L1, ⟨ua, un, uc⟩, by omega, by go_num, by go_num, by omega, by omega, fun h => by omega, by have := HL1.out; have := HTN.out; omega, BB.out, HU3.out, HB.out⟩
            case measure => simp [intOf]; omega
      · by_cases h0 : 0 < T.length
        · have hn : nn = 0 := by
            rcases Int.lt_or_eq_of_le hn0 with h | h
            · have := HT.out h
              rw [this] at h0
              simp at h0
            · exact h.symm
          subst hn
          have HF := hid (count_wake D T h0)
          clear HT h0
          go_wp2_with (first
            | (refine wpList_load_box rfl 24 _ rfl (v1.heap.size) rfl _ _ BB.out _ Try.underlying24 Try.infoSe ?_)
            | fail)
          have HBs := HB.out.size
          refine (put_any 0 D k (s := u) (l := T) HU.out.sees (by have := HTN.out; have := HI60.out; omega)).mono ?_
          rintro e v4 ⟨u3, q3, rfl, hu, hq, hb⟩
          have BB := hid (BB.out.belowAll hb)
          have HU := hid (HU.out.below hb)
          have HB := hid (HB.out.trans (hb.mono HB.out.size))
          have hsv4 : wr.heap.size ≤ v4.heap.size := by first | exact hb.size | omega
          rw [HF.out.1, HF.out.2.1]
          have hqn := hq.n
          rw [HF.out.2.2] at hqn
          have HU3 := hid (hu.mono HBs)
          obtain ⟨ua, un, uc⟩ := u3
          obtain ⟨qa, qn, qc⟩ := q3
          simp only at hqn
          subst hqn
          clear hu hq HBs HU
          simp only [Sl.val]
          clear hb
          have FL3 := hid trivial
          have FL4 := hid trivial
          have FL5 := hid trivial
          go_wp2_with (first
            | (have hfl := FL3.out
               refine wpList_new rfl 24 rfl _ Try.zeroSe ?_
               intro v5 b h z
               have CB := hid (show BoxAt v5 v4.heap.size 24 #[.int .i64 0, .int .i64 0, .bool false, .slice none 0 0] from b)
               have BB := hid (BB.out.belowAll h)
               have HU3 := hid (HU3.out.below h)
               have HB := hid (HB.out.trans (h.mono HB.out.size))
               have hsv5 : v4.heap.size + 1 ≤ v5.heap.size := by first | exact h.size | omega
               clear b h z hfl FL3)
            | (have hfl := FL4.out
               refine wpList_store_whole rfl 24 _ _ rfl rfl (v4.heap.size) rfl [.int .i64 0, .int .i64 D, .bool k, .slice ua un uc] rfl _ _ CB.out rfl Try.infoSe (by simp [Value.oneCell']) ?_
               intro v6 b g z
               have hsv6 : v5.heap.size ≤ v6.heap.size := by omega
               have HU3 := hid (HU3.out.put g CB.out (by decide))
               have CB := hid (show BoxAt v6 (v4.heap.size) 24 #[.int .i64 0, .int .i64 D, .bool k, .slice ua un uc] from b)
               have BB := hid (BB.out.grown g (fun e => by have := Option.some.inj e; omega))
               have HB := hid (HB.out.trans (grown_below g (by omega) (by omega)))
               clear b g z hfl FL4)
            | (refine wpList_load_box rfl 24 _ rfl (v4.heap.size) rfl _ _ CB.out _ Try.underlying24 Try.infoSe ?_)
            | (have hfl := FL5.out
               refine wpList_store_whole rfl 24 _ _ rfl rfl (v1.heap.size) rfl [.int .i64 0, .int .i64 D, .bool k, .slice ua un uc] rfl _ _ BB.out rfl Try.infoSe (by simp [Value.oneCell']) ?_
               intro v7 b g z
               have hsv7 : v6.heap.size ≤ v7.heap.size := by omega
               have HU3 := hid (HU3.out.put g BB.out (by decide))
               have BB := hid (show BoxAt v7 (v1.heap.size) 24 #[.int .i64 0, .int .i64 D, .bool k, .slice ua un uc] from b)
               have CB := hid (CB.out.grown g (fun e => by have := Option.some.inj e; omega))
               have HB := hid (HB.out.trans (grown_below g (by omega) (by omega)))
               clear b g z hfl FL5
               refine Hid.out ?_)
            | fail)
          refine hid ?_
          have kBB0 : v7.cell? ⟨v1.heap.size, 0, none⟩ = some (.int .i64 0) := (BoxAt.cell BB.out 0).trans rfl
          have kBB3 : v7.cell? ⟨v1.heap.size, 3, none⟩ = some (.slice ua un uc) := (BoxAt.cell BB.out 3).trans rfl
          go_wp2_with fail
          go_roundw
          case rel => exact ⟨i + 1, 0, T.drop 1, ⟨ua, un, uc⟩, by omega, by go_num, by go_num, by omega, by omega, fun h => by omega, by have := HTN.out; simp; omega, BB.out, HU3.out, HB.out⟩
          case measure => simp [intOf]; omega
        have hTe := List.eq_nil_of_length_eq_zero (show T.length = 0 by omega)
        subst hTe
        clear HT h0
        by_cases hd : nn < D
        · obtain ⟨n1, h1n⟩ : ∃ n1, nn + 1 = n1 := ⟨_, rfl⟩
          have HF := hid (count_more nn n1 D hd hn0 (by omega) h1n)
          have hb1 : -9223372036854775808 ≤ n1 := by omega
          have hb2 : n1 ≤ 9223372036854775807 := by omega
          have hw1 : wrap64 (nn + 1) = n1 := by rw [h1n]; exact wrap64_id _ hb1 hb2
          have hw2 : IntKind.i64.wrap (nn + 1) = n1 := by rw [h1n]; exact wrapi_id _ hb1 hb2
          have hne : (n1 != n1) = false := by simp
          clear hb1 hb2
          go_wp2_with (first
            | (refine wpList_load_box rfl 24 _ rfl (v1.heap.size) rfl _ _ BB.out _ Try.underlying24 Try.infoSe ?_)
            | fail)
          have HBs := HB.out.size
          refine (put_any nn D k (s := u) (l := []) HU.out.sees (by simp)).mono ?_
          rintro e v4 ⟨u3, q3, rfl, hu, hq, hb⟩
          have BB := hid (BB.out.belowAll hb)
          have HU := hid (HU.out.below hb)
          have HB := hid (HB.out.trans (hb.mono HB.out.size))
          have hsv4 : wr.heap.size ≤ v4.heap.size := by first | exact hb.size | omega
          rw [HF.out.1, HF.out.2]
          have hun : u3.n = 0 := hu.n
          have hqn : q3.n = 0 := hq.n
          have HU3 := hid (hu.mono HBs)
          obtain ⟨ua, un, uc⟩ := u3
          obtain ⟨qa, qn, qc⟩ := q3
          simp only at hun
          subst hun
          simp only at hqn
          subst hqn
          clear hu hq HBs HU
          simp only [Sl.val]
          clear hb
          have FL3 := hid trivial
          have FL4 := hid trivial
          have FL5 := hid trivial
          go_wp2_with (first
            | (have hfl := FL3.out
               refine wpList_new rfl 24 rfl _ Try.zeroSe ?_
               intro v5 b h z
               have CB := hid (show BoxAt v5 v4.heap.size 24 #[.int .i64 0, .int .i64 0, .bool false, .slice none 0 0] from b)
               have BB := hid (BB.out.belowAll h)
               have HU3 := hid (HU3.out.below h)
               have HB := hid (HB.out.trans (h.mono HB.out.size))
               have hsv5 : v4.heap.size + 1 ≤ v5.heap.size := by first | exact h.size | omega
               clear b h z hfl FL3)
            | (have hfl := FL4.out
               refine wpList_store_whole rfl 24 _ _ rfl rfl (v4.heap.size) rfl [.int .i64 n1, .int .i64 D, .bool k, .slice ua 0 uc] rfl _ _ CB.out rfl Try.infoSe (by simp [Value.oneCell']) ?_
               intro v6 b g z
               have hsv6 : v5.heap.size ≤ v6.heap.size := by omega
               have HU3 := hid (HU3.out.put g CB.out (by decide))
               have CB := hid (show BoxAt v6 (v4.heap.size) 24 #[.int .i64 n1, .int .i64 D, .bool k, .slice ua 0 uc] from b)
               have BB := hid (BB.out.grown g (fun e => by have := Option.some.inj e; omega))
               have HB := hid (HB.out.trans (grown_below g (by omega) (by omega)))
               clear b g z hfl FL4)
            | (refine wpList_load_box rfl 24 _ rfl (v4.heap.size) rfl _ _ CB.out _ Try.underlying24 Try.infoSe ?_)
            | (have hfl := FL5.out
               refine wpList_store_whole rfl 24 _ _ rfl rfl (v1.heap.size) rfl [.int .i64 n1, .int .i64 D, .bool k, .slice ua 0 uc] rfl _ _ BB.out rfl Try.infoSe (by simp [Value.oneCell']) ?_
               intro v7 b g z
               have hsv7 : v6.heap.size ≤ v7.heap.size := by omega
               have HU3 := hid (HU3.out.put g BB.out (by decide))
               have BB := hid (show BoxAt v7 (v1.heap.size) 24 #[.int .i64 n1, .int .i64 D, .bool k, .slice ua 0 uc] from b)
               have CB := hid (CB.out.grown g (fun e => by have := Option.some.inj e; omega))
               have HB := hid (HB.out.trans (grown_below g (by omega) (by omega)))
               clear b g z hfl FL5
               refine Hid.out ?_)
            | fail)
          refine hid ?_
          have kBB0 : v7.cell? ⟨v1.heap.size, 0, none⟩ = some (.int .i64 n1) := (BoxAt.cell BB.out 0).trans rfl
          have kBB3 : v7.cell? ⟨v1.heap.size, 3, none⟩ = some (.slice ua 0 uc) := (BoxAt.cell BB.out 3).trans rfl
          go_wp2_with fail
          go_roundw
          case rel => exact ⟨i + 1, n1, [], ⟨ua, 0, uc⟩, by omega, by go_num, by go_num, by omega, by omega, fun _ => rfl, by simp, BB.out, HU3.out, HB.out⟩
          case measure => simp [intOf]; omega
        · have HF := hid (count_full nn D hd)
          have hne : (nn != nn) = false := by simp
          go_wp2_with (first
            | (refine wpList_load_box rfl 24 _ rfl (v1.heap.size) rfl _ _ BB.out _ Try.underlying24 Try.infoSe ?_)
            | fail)
          have HBs := HB.out.size
          refine (put_any nn D k (s := u) (l := []) HU.out.sees (by simp)).mono ?_
          rintro e v4 ⟨u3, q3, rfl, hu, hq, hb⟩
          have BB := hid (BB.out.belowAll hb)
          have HU := hid (HU.out.below hb)
          have HB := hid (HB.out.trans (hb.mono HB.out.size))
          have hsv4 : wr.heap.size ≤ v4.heap.size := by first | exact hb.size | omega
          rw [HF.out.1, HF.out.2]
          have hun : u3.n = 0 := hu.n
          have HU3 := hid (hu.mono HBs)
          obtain ⟨ua, un, uc⟩ := u3
          obtain ⟨qa, qn, qc⟩ := q3
          simp only at hun
          subst hun
          clear hu hq HBs HU
          simp only [Sl.val]
          clear hb
          have FL3 := hid trivial
          have FL4 := hid trivial
          have FL5 := hid trivial
          go_wp2_with (first
            | (have hfl := FL3.out
               refine wpList_new rfl 24 rfl _ Try.zeroSe ?_
               intro v5 b h z
               have CB := hid (show BoxAt v5 v4.heap.size 24 #[.int .i64 0, .int .i64 0, .bool false, .slice none 0 0] from b)
               have BB := hid (BB.out.belowAll h)
               have HU3 := hid (HU3.out.below h)
               have HB := hid (HB.out.trans (h.mono HB.out.size))
               have hsv5 : v4.heap.size + 1 ≤ v5.heap.size := by first | exact h.size | omega
               clear b h z hfl FL3)
            | (have hfl := FL4.out
               refine wpList_store_whole rfl 24 _ _ rfl rfl (v4.heap.size) rfl [.int .i64 nn, .int .i64 D, .bool k, .slice ua 0 uc] rfl _ _ CB.out rfl Try.infoSe (by simp [Value.oneCell']) ?_
               intro v6 b g z
               have hsv6 : v5.heap.size ≤ v6.heap.size := by omega
               have HU3 := hid (HU3.out.put g CB.out (by decide))
               have CB := hid (show BoxAt v6 (v4.heap.size) 24 #[.int .i64 nn, .int .i64 D, .bool k, .slice ua 0 uc] from b)
               have BB := hid (BB.out.grown g (fun e => by have := Option.some.inj e; omega))
               have HB := hid (HB.out.trans (grown_below g (by omega) (by omega)))
               clear b g z hfl FL4)
            | (refine wpList_load_box rfl 24 _ rfl (v4.heap.size) rfl _ _ CB.out _ Try.underlying24 Try.infoSe ?_)
            | (have hfl := FL5.out
               refine wpList_store_whole rfl 24 _ _ rfl rfl (v1.heap.size) rfl [.int .i64 nn, .int .i64 D, .bool k, .slice ua 0 uc] rfl _ _ BB.out rfl Try.infoSe (by simp [Value.oneCell']) ?_
               intro v7 b g z
               have hsv7 : v6.heap.size ≤ v7.heap.size := by omega
               have HU3 := hid (HU3.out.put g BB.out (by decide))
               have BB := hid (show BoxAt v7 (v1.heap.size) 24 #[.int .i64 nn, .int .i64 D, .bool k, .slice ua 0 uc] from b)
               have CB := hid (CB.out.grown g (fun e => by have := Option.some.inj e; omega))
               have HB := hid (HB.out.trans (grown_below g (by omega) (by omega)))
               clear b g z hfl FL5
               refine Hid.out ?_)
            | fail)
          refine hid ?_
          have kBB0 : v7.cell? ⟨v1.heap.size, 0, none⟩ = some (.int .i64 nn) := (BoxAt.cell BB.out 0).trans rfl
          have kBB3 : v7.cell? ⟨v1.heap.size, 3, none⟩ = some (.slice ua 0 uc) := (BoxAt.cell BB.out 3).trans rfl
          go_wp2_with fail
          go_roundw
          case rel => exact ⟨i + 1, nn, [], ⟨ua, 0, uc⟩, by omega, by go_num, by go_num, by omega, by omega, fun _ => rfl, by simp, BB.out, HU3.out, HB.out⟩
          case measure => simp [intOf]; omega
    · go_wp2
      go_ret
      exact ⟨rfl, HB.out⟩

end Go.Proofs.Ytjdaneppjgljpaa
