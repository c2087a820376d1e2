/-
  SemaRanks: the walk.
-/
import Derived.Test.YtjdaneppjgljpaaSeAwake
import Derived.Test.YtjdaneppjgljpaaSeOpen
import Derived.BigQuiet
namespace Go.Proofs.Ytjdaneppjgljpaa
open Go.RowKit
set_option linter.unusedVariables false


theorem addP_head (t : Wt) (T : List Wt) (y : Wt) (k : Bool) : (addP (t :: T) y k).getD 0 Wt.zero = if k = true ∧ t.r < y.r then y else t := by
  unfold addP putP placeP
  cases k
  · simp
  · by_cases h : t.r < y.r
    · simp [List.findIdx_cons, h]
    · simp [List.findIdx_cons, h]
/-- Who is first, behind one more who comes. -/
theorem rank_step (k : Bool) (l T : List Wt) (i bi : Nat) (hT : T.length = i) (h : 0 < i → T.getD 0 Wt.zero = l.getD bi Wt.zero) (h0 : i = 0 → bi = 0) :
    (addP T (l.getD i Wt.zero) k).getD 0 Wt.zero = if k = true ∧ (l.getD bi Wt.zero).r < (l.getD i Wt.zero).r then l.getD i Wt.zero else l.getD bi Wt.zero := by
  cases T with
  | nil =>
    have hi : i = 0 := by simpa using hT.symm
    subst hi
    rw [h0 rfl]
    have : addP [] (l.getD 0 Wt.zero) k = [l.getD 0 Wt.zero] := by
      unfold addP putP placeP
      cases k <;> simp
    rw [this]
    simp
  | cons t T =>
    have hi : 0 < i := by rw [← hT]; simp
    have ht : t = l.getD bi Wt.zero := by simpa using h hi
    rw [addP_head, ht]
theorem rank_end (l : List Wt) (h : 0 < l.length) : putN 0 1 l = 0 ∧ putC 0 1 l = 0 ∧ putW l = [⟨(l.getD 0 Wt.zero).p, 0, 0⟩] := ⟨if_pos h, if_pos h, if_pos h⟩


set_option maxRecDepth 100000 in
set_option maxHeartbeats 3200000 in
theorem walk_SemaRanks (w : World) (v : Value) (l : List Wt) (hv : SeesWt w v l) (hf : ∀ r ∈ l, r.fit) (k : Bool) :
    Calls Try.prog 6 #[v, .bool k] w fun e w' => e = .returned (.bool true) ∧ Below w.heap.size w w' := by
  clear hf
  have HV := hid hv
  obtain ⟨al, cl, rfl, hl1, hl2, hlc⟩ := hv.form
  unfold maxLen at hl2
  obtain ⟨N, hN⟩ : ∃ n, l.length = n := ⟨_, rfl⟩
  rw [hN] at hl1 hlc HV ⊢
  have HLC := hid hlc
  have HN := hid hN
  clear hv hlc hN
  clear HV
  have HB := hid (Below.refl w.heap.size w)
  go_enter Try.func6, Try.ntmps6
  go_wp2_with fail
  refine (seawake_any _).mono ?_
  rintro e v1 ⟨rfl, hb⟩
  have HB := hid (HB.out.trans (hb.mono HB.out.size))
  have hsv1 : w.heap.size ≤ v1.heap.size := by first | exact hb.size | omega
  clear hb
  by_cases hgd0 : (N : Int) < 1
  · go_wp2
    go_ret
    exact ⟨rfl, HB.out⟩
  by_cases hgd1 : (60 : Int) < (N : Int)
  · go_wp2
    go_ret
    exact ⟨rfl, HB.out⟩
  have FL1 := hid trivial
  have FL2 := hid trivial
  go_wp2_with (first
    | (have hfl := FL1.out
       refine wpList_new rfl 24 rfl _ Try.zeroSe ?_
       intro v2 b h z
       have BB := hid (show BoxAt v2 v1.heap.size 24 #[.int .i64 0, .int .i64 0, .bool false, .slice none 0 0] from b)
       have HB := hid (HB.out.trans (h.mono HB.out.size))
       have hsv2 : v1.heap.size + 1 ≤ v2.heap.size := by first | exact h.size | omega
       clear b h z hfl FL1)
    | (have hfl := FL2.out
       refine wpList_store_whole rfl 24 _ _ rfl rfl (v1.heap.size) rfl [.int .i64 0, .int .i64 1, .bool k, .slice none 0 0] rfl _ _ BB.out rfl Try.infoSe (by simp [Value.oneCell']) ?_
       intro v3 b g z
       have hsv3 : v2.heap.size ≤ v3.heap.size := by omega
       have BB := hid (show BoxAt v3 (v1.heap.size) 24 #[.int .i64 0, .int .i64 1, .bool k, .slice none 0 0] from b)
       have HB := hid (HB.out.trans (grown_below g (by omega) (by omega)))
       clear b g z hfl FL2
       refine Hid.out ?_)
    | fail)
  refine hid ?_
  go_wp2_with fail
  go_loopw [7, 8] (fun bs t wc => ∃ (i bi : Nat) (T : List Wt) (u : Sl), i ≤ N ∧ bs = .int .i64 bi ∧ t = .int .i64 i ∧ bi ≤ i ∧ bi < N ∧ T.length = i ∧ (0 < i → T.getD 0 Wt.zero = l.getD bi Wt.zero) ∧ BoxAt wc (v1.heap.size) 24 #[.int .i64 0, .int .i64 1, .bool k, .slice u.a u.n u.c] ∧ OWt wc w.heap.size u.val T ∧ Below w.heap.size w wc) (fun _ t _ => N - (intOf t).toNat)
  case atStart => exact ⟨0, 0, [], ⟨none, 0, 0⟩, by omega, rfl, rfl, by omega, by omega, rfl, by intro h; omega, BB.out, OWt.nil _ _, HB.out⟩
  case round =>
    clear BB HB
    obtain ⟨i, bi, T, u, hi, rfl, rfl, hbi, hbN, hTn, hT, hbb, hou, hbel⟩ := hrel
    have BB := hid hbb
    have HU := hid hou
    have HT := hid hT
    have HTN := hid hTn
    have HB := hid hbel
    have hsr : v1.heap.size + 1 ≤ wr.heap.size := hbb.lt
    have hsw : w.heap.size ≤ wr.heap.size := hbel.size
    clear hbb hou hbel hT hTn
    by_cases hlt : i < N
    · obtain ⟨bb, off, rfl, hbw, hcell⟩ := HLC.out (by omega)
      have c0 := hid (hcell i hlt 0 (by decide))
      have c1 := hid (hcell i hlt 1 (by decide))
      have c2 := hid (hcell i hlt 2 (by decide))
      have d1 := hid (hcell bi hbN 1 (by decide))
      have HRS := hid (rank_step k l T i bi HTN.out HT.out (fun h => by omega))
      obtain ⟨y, hy⟩ : ∃ y, l.getD i Wt.zero = y := ⟨_, rfl⟩
      obtain ⟨f, hf⟩ : ∃ f, l.getD bi Wt.zero = f := ⟨_, rfl⟩
      have HY := hid hy
      have HF := hid hf
      rw [hy, hf] at HRS
      rw [hy] at c0 c1 c2
      rw [hf] at d1
      clear hy hf hcell HLC
      obtain ⟨y0, y1, y2⟩ := y
      obtain ⟨f0, f1, f2⟩ := f
      simp only [Wt.cells, List.getD_cons_zero, List.getD_cons_succ, Nat.add_zero] at c0 c1 c2 d1 HRS
      go_wp2_with fail
      have BB := hid (BoxAt.drew BB.out)
      have HU := hid (HU.out.below ((Below.refl wr.heap.size wr).drew))
      have HB := hid (HB.out.drew)
      have hsv4 : wr.heap.size ≤ wr.drew.heap.size := Nat.le_refl _
      refine wp_region_held_drew (S := (fun w' : World => BoxAt w' (v1.heap.size) 24 #[.int .i64 0, .int .i64 1, .bool k, .slice u.a u.n u.c] ∧ w'.cell? ⟨bb, off + i * 3, none⟩ = some (.int .i64 y0) ∧ w'.cell? ⟨bb, off + i * 3 + 1, none⟩ = some (.int .i64 y1) ∧ w'.cell? ⟨bb, off + i * 3 + 2, none⟩ = some (.int .i64 y2))) (by kernel_rfl) (⟨BB.out, (HB.out.cell (by exact hbw)).trans c0.out, (HB.out.cell (by exact hbw)).trans c1.out, (HB.out.cell (by exact hbw)).trans c2.out⟩) (fun hHeld => ?_)
      generalize wr.drew = v4 at *
      refine wpAnyH_take (i := 0) (oi := { dst := some 37, op := Op.load 24 (Operand.tmp 6), type := 24, pos := "more.go:45", after := _, guard := none }) (v := ?_) rfl (by kernel_rfl) (by kernel_rfl) (by kernel_rfl) (fun _ _ _ h => h) (Or.inl ⟨by rfl, ?_⟩) (by assumption) ?_
      rotate_left
      · (intro W hSw; (try dsimp only at hSw); obtain ⟨hs0S, hs1S, hs2S, hs3S⟩ := hSw; have c0_0 : W.cell? ⟨v1.heap.size, 0, none⟩ = some (.int .i64 0) := (BoxAt.cell hs0S 0).trans rfl; have c0_1 : W.cell? ⟨v1.heap.size, 1, none⟩ = some (.int .i64 1) := (BoxAt.cell hs0S 1).trans rfl; have c0_2 : W.cell? ⟨v1.heap.size, 2, none⟩ = some (.bool k) := (BoxAt.cell hs0S 2).trans rfl; have c0_3 : W.cell? ⟨v1.heap.size, 3, none⟩ = some (.slice u.a u.n u.c) := (BoxAt.cell hs0S 3).trans rfl; clear hs0S; go_simp; try with_reducible rfl)
      simp only [Act.put, List.setIfInBounds_toArray, List.set_cons_zero, List.set_cons_succ]
      refine wpAnyH_take (i := 1) (oi := { dst := some 38, op := Op.move (Operand.tmp 0), type := 22, pos := "more.go:45", after := _, guard := none }) (v := ?_) rfl (by kernel_rfl) (by kernel_rfl) (by kernel_rfl) (fun _ _ _ h => h) (Or.inl ⟨by rfl, ?_⟩) (by assumption) ?_
      rotate_left
      · (intro w hSw; (try dsimp only at hSw); go_simp; try with_reducible rfl)
      simp only [Act.put, List.setIfInBounds_toArray, List.set_cons_zero, List.set_cons_succ]
      refine wpAnyH_take (i := 2) (oi := { dst := some 39, op := Op.move (Operand.tmp 8), type := 3, pos := "more.go:45", after := _, guard := none }) (v := ?_) rfl (by kernel_rfl) (by kernel_rfl) (by kernel_rfl) (fun _ _ _ h => h) (Or.inl ⟨by rfl, ?_⟩) (by assumption) ?_
      rotate_left
      · (intro w hSw; (try dsimp only at hSw); go_simp; try with_reducible rfl)
      simp only [Act.put, List.setIfInBounds_toArray, List.set_cons_zero, List.set_cons_succ]
      refine wpAnyH_take (i := 3) (oi := { dst := some 40, op := Op.indexAddr 22 (Operand.tmp 38) (Operand.tmp 39), type := 0, pos := "more.go:45", after := _, guard := none }) (v := ?_) rfl (by kernel_rfl) (by kernel_rfl) (by kernel_rfl) (fun _ _ _ h => h) (Or.inl ⟨by rfl, ?_⟩) (by assumption) ?_
      rotate_left
      · (intro w hSw; (try dsimp only at hSw); go_simp; try with_reducible rfl)
      simp only [Act.put, List.setIfInBounds_toArray, List.set_cons_zero, List.set_cons_succ]
      refine wpAnyH_take (i := 4) (oi := { dst := some 41, op := Op.load 26 (Operand.tmp 40), type := 26, pos := "more.go:45", after := _, guard := none }) (v := ?_) rfl (by kernel_rfl) (by kernel_rfl) (by kernel_rfl) (fun _ _ _ h => h) (Or.inl ⟨by rfl, ?_⟩) (by assumption) ?_
      rotate_left
      · (intro W hSw; (try dsimp only at hSw); obtain ⟨hs0S, hs1S, hs2S, hs3S⟩ := hSw; have c0_0 : W.cell? ⟨v1.heap.size, 0, none⟩ = some (.int .i64 0) := (BoxAt.cell hs0S 0).trans rfl; have c0_1 : W.cell? ⟨v1.heap.size, 1, none⟩ = some (.int .i64 1) := (BoxAt.cell hs0S 1).trans rfl; have c0_2 : W.cell? ⟨v1.heap.size, 2, none⟩ = some (.bool k) := (BoxAt.cell hs0S 2).trans rfl; have c0_3 : W.cell? ⟨v1.heap.size, 3, none⟩ = some (.slice u.a u.n u.c) := (BoxAt.cell hs0S 3).trans rfl; clear hs0S; go_simp; try with_reducible rfl)
      simp only [Act.put, List.setIfInBounds_toArray, List.set_cons_zero, List.set_cons_succ]
      refine wpAnyH_ready (rs := [5, 9]) (by kernel_rfl) (by simp) (AllReadyH.cons (o := { dst := some 42, op := Op.call { callee := Callee.value (Operand.func 9), args := #[Operand.tmp 37, Operand.tmp 41, Operand.const (Value.bool true)], argTypes := #[24, 26, 4] }, type := 28, pos := "more.go:45", after := _, guard := none }) rfl (fun K1006 hK1006 => ?b1006_5) (AllReadyH.cons (o := { dst := some 9, op := Op.alloc 24, type := 0, pos := "more.go:45", after := _, guard := none }) rfl (fun K1006 hK1006 => ?b1006_9) AllReadyH.nil))
      case' b1006_5 =>
        have HBt := HB.out.size
        go_simp
        refine (get_any 0 1 k y0 y1 y2 true (s := u) (l := T) HU.out.sees (by rw [HTN.out]; omega)).mono ?_
        rintro e v5 ⟨u1, rfl, hu, hb⟩
        have BB := hid (BB.out.belowAll hb)
        have HU := hid (HU.out.below hb)
        have HB := hid (HB.out.trans (hb.mono HB.out.size))
        have hsv5 : v4.heap.size ≤ v5.heap.size := by first | exact hb.size | omega
        rw [show getN 0 = 0 from rfl, show getC 0 true = 6 from rfl]
        rw [show getL 0 k T ⟨y0, y1, y2⟩ true = addP T ⟨y0, y1, y2⟩ k from rfl] at hu
        have HU1 := hid (hu.mono HBt)
        clear hu HBt HU
        clear hb
        refine hK1006.out _ _ (⟨BB.out, (HB.out.cell (by exact hbw)).trans c0.out, (HB.out.cell (by exact hbw)).trans c1.out, (HB.out.cell (by exact hbw)).trans c2.out⟩) (fun hHeld1006 => ?_)
        clear hK1006 K1006
        try simp only [Act.put, List.setIfInBounds_toArray, List.set_cons_zero, List.set_cons_succ]
        refine wpAnyH_take (i := 6) (oi := { dst := some 36, op := Op.move (Operand.tmp 42), type := 28, pos := "more.go:45", after := _, guard := none }) (v := ?_) rfl (by kernel_rfl) (by kernel_rfl) (by kernel_rfl) (fun _ _ _ h => h) (Or.inl ⟨by rfl, ?_⟩) (by assumption) ?_
        rotate_left
        · (intro w hSw; (try dsimp only at hSw); go_simp; try with_reducible rfl)
        simp only [Act.put, List.setIfInBounds_toArray, List.set_cons_zero, List.set_cons_succ]
        refine wpAnyH_take (i := 7) (oi := { dst := some 43, op := Op.extract (Operand.tmp 36) 0, type := 24, pos := "more.go:45", after := _, guard := none }) (v := ?_) rfl (by kernel_rfl) (by kernel_rfl) (by kernel_rfl) (fun _ _ _ h => h) (Or.inl ⟨by rfl, ?_⟩) (by assumption) ?_
        rotate_left
        · (intro w hSw; (try dsimp only at hSw); go_simp; try with_reducible rfl)
        simp only [Act.put, List.setIfInBounds_toArray, List.set_cons_zero, List.set_cons_succ]
        refine wpAnyH_take (i := 8) (oi := { dst := some 44, op := Op.extract (Operand.tmp 36) 1, type := 3, pos := "more.go:45", after := _, guard := none }) (v := ?_) rfl (by kernel_rfl) (by kernel_rfl) (by kernel_rfl) (fun _ _ _ h => h) (Or.inl ⟨by rfl, ?_⟩) (by assumption) ?_
        rotate_left
        · (intro w hSw; (try dsimp only at hSw); go_simp; try with_reducible rfl)
        simp only [Act.put, List.setIfInBounds_toArray, List.set_cons_zero, List.set_cons_succ]
        refine wpAnyH_ready (rs := [9]) (by kernel_rfl) (by simp) (AllReadyH.cons (o := { dst := some 9, op := Op.alloc 24, type := 0, pos := "more.go:45", after := _, guard := none }) rfl (fun K1010 hK1010 => ?_) AllReadyH.nil)
        refine step_new rfl 24 rfl _ Try.zeroSe ?_
        intro v6 b h z
        have CB := hid (show BoxAt v6 v5.heap.size 24 #[.int .i64 0, .int .i64 0, .bool false, .slice none 0 0] from b)
        have BB := hid (BB.out.belowAll h)
        have HU1 := hid (HU1.out.below h)
        have HB := hid (HB.out.trans (h.mono HB.out.size))
        have hsv6 : v5.heap.size + 1 ≤ v6.heap.size := by first | exact h.size | omega
        clear b h z
        refine hK1010.out _ _ (⟨BB.out, (HB.out.cell (by exact hbw)).trans c0.out, (HB.out.cell (by exact hbw)).trans c1.out, (HB.out.cell (by exact hbw)).trans c2.out⟩) (fun hHeld1010 => ?_)
        clear hK1010 K1010
        try simp only [Act.put, List.setIfInBounds_toArray, List.set_cons_zero, List.set_cons_succ]
        refine wpAnyH_ready (rs := [10]) (by kernel_rfl) (by simp) (AllReadyH.cons (o := { dst := none, op := Op.store 24 (Operand.tmp 9) (Operand.tmp 43), type := 0, pos := "more.go:45", after := _, guard := none }) rfl (fun K1011 hK1011 => ?_) AllReadyH.nil)
        refine step_store_whole rfl 24 _ _ rfl (v5.heap.size) rfl [.int .i64 0, .int .i64 1, .bool k, .slice u1.a u1.n u1.c] rfl _ _ CB.out rfl Try.infoSe (by simp [Value.oneCell']) ?_
        intro v7 b g z
        have hsv7 : v6.heap.size ≤ v7.heap.size := by omega
        have HU1 := hid (HU1.out.put g CB.out (by decide))
        have CB := hid (show BoxAt v7 (v5.heap.size) 24 #[.int .i64 0, .int .i64 1, .bool k, .slice u1.a u1.n u1.c] from b)
        have BB := hid (BB.out.grown g (fun e => by have := Option.some.inj e; omega))
        have HB := hid (HB.out.trans (grown_below g (by omega) (by omega)))
        clear b g z
        refine hK1011.out _ _ (⟨BB.out, (HB.out.cell (by exact hbw)).trans c0.out, (HB.out.cell (by exact hbw)).trans c1.out, (HB.out.cell (by exact hbw)).trans c2.out⟩) (fun hHeld1011 => ?_)
        clear hK1011 K1011
        try simp only [Act.put]
        refine wpAnyH_take (i := 11) (oi := { dst := some 10, op := Op.assign (Operand.tmp 44), type := 3, pos := "more.go:45", after := _, guard := none }) (v := ?_) rfl (by kernel_rfl) (by kernel_rfl) (by kernel_rfl) (fun _ _ _ h => h) (Or.inl ⟨by rfl, ?_⟩) (by assumption) ?_
        rotate_left
        · (intro w hSw; (try dsimp only at hSw); go_simp; try with_reducible rfl)
        simp only [Act.put, List.setIfInBounds_toArray, List.set_cons_zero, List.set_cons_succ]
        refine wpAnyH_done (by kernel_rfl) ?_ _
        clear hHeld hHeld1006 hHeld1010 hHeld1011
        have FL3 := hid trivial
        go_wp2_with (first
          | (refine wpList_load_box rfl 24 _ rfl (v5.heap.size) rfl _ _ CB.out _ Try.underlying24 Try.infoSe ?_)
          | (have hfl := FL3.out
             refine wpList_store_whole rfl 24 _ _ rfl rfl (v1.heap.size) rfl [.int .i64 0, .int .i64 1, .bool k, .slice u1.a u1.n u1.c] rfl _ _ BB.out rfl Try.infoSe (by simp [Value.oneCell']) ?_
             intro v8 b g z
             have hsv8 : v7.heap.size ≤ v8.heap.size := by omega
             have HU1 := hid (HU1.out.put g BB.out (by decide))
             have BB := hid (show BoxAt v8 (v1.heap.size) 24 #[.int .i64 0, .int .i64 1, .bool k, .slice u1.a u1.n u1.c] from b)
             have CB := hid (CB.out.grown g (fun e => by have := Option.some.inj e; omega))
             have HB := hid (HB.out.trans (grown_below g (by omega) (by omega)))
             clear b g z hfl FL3
             refine Hid.out ?_)
          | fail)
        refine hid ?_
        go_wp2_with fail
        rcases k with _ | _
        · have BB := hid (BoxAt.drew BB.out)
          have CB := hid (BoxAt.drew CB.out)
          have HU1 := hid (HU1.out.below ((Below.refl v8.heap.size v8).drew))
          have HB := hid (HB.out.drew)
          have hsv9 : v8.heap.size ≤ v8.drew.heap.size := Nat.le_refl _
          refine wp_region_held_drew (S := (fun w' : World => BoxAt w' (v1.heap.size) 24 #[.int .i64 0, .int .i64 1, .bool false, .slice u1.a u1.n u1.c])) (by kernel_rfl) (BB.out) (fun hHeld => ?_)
          generalize v8.drew = v9 at *
          refine wpAnyH_take (i := 0) (oi := { dst := some 48, op := Op.move (Operand.tmp 1), type := 4, pos := "more.go:50", after := _, guard := none }) (v := ?_) rfl (by kernel_rfl) (by kernel_rfl) (by kernel_rfl) (fun _ _ _ h => h) (Or.inl ⟨by rfl, ?_⟩) (by assumption) ?_
          rotate_left
          · (intro w hSw; (try dsimp only at hSw); go_simp; try with_reducible rfl)
          simp only [Act.put, List.setIfInBounds_toArray, List.set_cons_zero, List.set_cons_succ]
          refine wpAnyH_take (i := 1) (oi := { dst := some 49, op := Op.move (Operand.tmp 48), type := 4, pos := "more.go:50", after := _, guard := none }) (v := ?_) rfl (by kernel_rfl) (by kernel_rfl) (by kernel_rfl) (fun _ _ _ h => h) (Or.inl ⟨by rfl, ?_⟩) (by assumption) ?_
          rotate_left
          · (intro w hSw; (try dsimp only at hSw); go_simp; try with_reducible rfl)
          simp only [Act.put, List.setIfInBounds_toArray, List.set_cons_zero, List.set_cons_succ]
          refine wpAnyH_take (i := 2) (oi := { dst := some 50, op := Op.move (Operand.tmp 0), type := 22, pos := "more.go:50", after := _, guard := some (1, true) }) (v := undef) rfl (by kernel_rfl) (by kernel_rfl) (by kernel_rfl) (fun _ _ _ h => h) (Or.inr ⟨by rfl, rfl⟩) (by assumption) ?_
          simp only [Act.put, List.setIfInBounds_toArray, List.set_cons_zero, List.set_cons_succ]
          refine wpAnyH_take (i := 3) (oi := { dst := some 51, op := Op.move (Operand.tmp 8), type := 3, pos := "more.go:50", after := _, guard := some (1, true) }) (v := undef) rfl (by kernel_rfl) (by kernel_rfl) (by kernel_rfl) (fun _ _ _ h => h) (Or.inr ⟨by rfl, rfl⟩) (by assumption) ?_
          simp only [Act.put, List.setIfInBounds_toArray, List.set_cons_zero, List.set_cons_succ]
          refine wpAnyH_take (i := 4) (oi := { dst := some 52, op := Op.indexAddr 22 (Operand.tmp 50) (Operand.tmp 51), type := 0, pos := "more.go:50", after := _, guard := some (1, true) }) (v := undef) rfl (by kernel_rfl) (by kernel_rfl) (by kernel_rfl) (fun _ _ _ h => h) (Or.inr ⟨by rfl, rfl⟩) (by assumption) ?_
          simp only [Act.put, List.setIfInBounds_toArray, List.set_cons_zero, List.set_cons_succ]
          refine wpAnyH_take (i := 5) (oi := { dst := some 53, op := Op.fieldAddr 26 (Operand.tmp 52) 1, type := 0, pos := "more.go:50", after := _, guard := some (1, true) }) (v := undef) rfl (by kernel_rfl) (by kernel_rfl) (by kernel_rfl) (fun _ _ _ h => h) (Or.inr ⟨by rfl, rfl⟩) (by assumption) ?_
          simp only [Act.put, List.setIfInBounds_toArray, List.set_cons_zero, List.set_cons_succ]
          refine wpAnyH_take (i := 6) (oi := { dst := some 54, op := Op.load 3 (Operand.tmp 53), type := 3, pos := "more.go:50", after := _, guard := some (1, true) }) (v := undef) rfl (by kernel_rfl) (by kernel_rfl) (by kernel_rfl) (fun _ _ _ h => h) (Or.inr ⟨by rfl, rfl⟩) (by assumption) ?_
          simp only [Act.put, List.setIfInBounds_toArray, List.set_cons_zero, List.set_cons_succ]
          refine wpAnyH_take (i := 7) (oi := { dst := some 55, op := Op.move (Operand.tmp 0), type := 22, pos := "more.go:50", after := _, guard := some (1, true) }) (v := undef) rfl (by kernel_rfl) (by kernel_rfl) (by kernel_rfl) (fun _ _ _ h => h) (Or.inr ⟨by rfl, rfl⟩) (by assumption) ?_
          simp only [Act.put, List.setIfInBounds_toArray, List.set_cons_zero, List.set_cons_succ]
          refine wpAnyH_take (i := 8) (oi := { dst := some 56, op := Op.move (Operand.tmp 7), type := 3, pos := "more.go:50", after := _, guard := some (1, true) }) (v := undef) rfl (by kernel_rfl) (by kernel_rfl) (by kernel_rfl) (fun _ _ _ h => h) (Or.inr ⟨by rfl, rfl⟩) (by assumption) ?_
          simp only [Act.put, List.setIfInBounds_toArray, List.set_cons_zero, List.set_cons_succ]
          refine wpAnyH_take (i := 9) (oi := { dst := some 57, op := Op.indexAddr 22 (Operand.tmp 55) (Operand.tmp 56), type := 0, pos := "more.go:50", after := _, guard := some (1, true) }) (v := undef) rfl (by kernel_rfl) (by kernel_rfl) (by kernel_rfl) (fun _ _ _ h => h) (Or.inr ⟨by rfl, rfl⟩) (by assumption) ?_
          simp only [Act.put, List.setIfInBounds_toArray, List.set_cons_zero, List.set_cons_succ]
          refine wpAnyH_take (i := 10) (oi := { dst := some 58, op := Op.fieldAddr 26 (Operand.tmp 57) 1, type := 0, pos := "more.go:50", after := _, guard := some (1, true) }) (v := undef) rfl (by kernel_rfl) (by kernel_rfl) (by kernel_rfl) (fun _ _ _ h => h) (Or.inr ⟨by rfl, rfl⟩) (by assumption) ?_
          simp only [Act.put, List.setIfInBounds_toArray, List.set_cons_zero, List.set_cons_succ]
          refine wpAnyH_take (i := 11) (oi := { dst := some 59, op := Op.load 3 (Operand.tmp 58), type := 3, pos := "more.go:50", after := _, guard := some (1, true) }) (v := undef) rfl (by kernel_rfl) (by kernel_rfl) (by kernel_rfl) (fun _ _ _ h => h) (Or.inr ⟨by rfl, rfl⟩) (by assumption) ?_
          simp only [Act.put, List.setIfInBounds_toArray, List.set_cons_zero, List.set_cons_succ]
          refine wpAnyH_take (i := 12) (oi := { dst := some 60, op := Op.binOp BinOp.gtr 3 (Operand.tmp 54) (Operand.tmp 59) 3, type := 4, pos := "more.go:50", after := _, guard := some (1, true) }) (v := undef) rfl (by kernel_rfl) (by kernel_rfl) (by kernel_rfl) (fun _ _ _ h => h) (Or.inr ⟨by rfl, rfl⟩) (by assumption) ?_
          simp only [Act.put, List.setIfInBounds_toArray, List.set_cons_zero, List.set_cons_succ]
          refine wpAnyH_take (i := 13) (oi := { dst := some 61, op := Op.pick (Operand.tmp 49) (Operand.tmp 60) (Operand.const (Value.bool false)), type := 4, pos := "more.go:50", after := _, guard := none }) (v := ?_) rfl (by kernel_rfl) (by kernel_rfl) (by kernel_rfl) (fun _ _ _ h => h) (Or.inl ⟨by rfl, ?_⟩) (by assumption) ?_
          rotate_left
          · (intro w hSw; (try dsimp only at hSw); go_simp; try with_reducible rfl)
          simp only [Act.put, List.setIfInBounds_toArray, List.set_cons_zero, List.set_cons_succ]
          refine wpAnyH_done (by kernel_rfl) ?_ _
          clear hHeld
          go_wp2
          go_roundw
          case rel => exact ⟨i + 1, bi, addP T ⟨y0, y1, y2⟩ false, u1, by omega, by rfl, by go_num, by omega, by omega, by rw [addP_len, HTN.out], fun _ => by rw [HRS.out, if_neg (by simp), HF.out], BB.out, HU1.out, HB.out⟩
          case measure => simp [intOf]; omega
        by_cases hpr : f1 < y1
        · have hpd : decide (f1 < y1) = true := decide_eq_true hpr
          have HPR := hid hpr
          clear hpr
          have BB := hid (BoxAt.drew BB.out)
          have CB := hid (BoxAt.drew CB.out)
          have HU1 := hid (HU1.out.below ((Below.refl v8.heap.size v8).drew))
          have HB := hid (HB.out.drew)
          have hsv9 : v8.heap.size ≤ v8.drew.heap.size := Nat.le_refl _
          refine wp_region_held_drew (S := (fun w' : World => BoxAt w' (v1.heap.size) 24 #[.int .i64 0, .int .i64 1, .bool true, .slice u1.a u1.n u1.c] ∧ w'.cell? ⟨bb, off + i * 3 + 1, none⟩ = some (.int .i64 y1) ∧ w'.cell? ⟨bb, off + bi * 3 + 1, none⟩ = some (.int .i64 f1))) (by kernel_rfl) (⟨BB.out, (HB.out.cell (by exact hbw)).trans c1.out, (HB.out.cell (by exact hbw)).trans d1.out⟩) (fun hHeld => ?_)
          generalize v8.drew = v9 at *
          refine wpAnyH_take (i := 0) (oi := { dst := some 48, op := Op.move (Operand.tmp 1), type := 4, pos := "more.go:50", after := _, guard := none }) (v := ?_) rfl (by kernel_rfl) (by kernel_rfl) (by kernel_rfl) (fun _ _ _ h => h) (Or.inl ⟨by rfl, ?_⟩) (by assumption) ?_
          rotate_left
          · (intro w hSw; (try dsimp only at hSw); go_simp; try with_reducible rfl)
          simp only [Act.put, List.setIfInBounds_toArray, List.set_cons_zero, List.set_cons_succ]
          refine wpAnyH_take (i := 1) (oi := { dst := some 49, op := Op.move (Operand.tmp 48), type := 4, pos := "more.go:50", after := _, guard := none }) (v := ?_) rfl (by kernel_rfl) (by kernel_rfl) (by kernel_rfl) (fun _ _ _ h => h) (Or.inl ⟨by rfl, ?_⟩) (by assumption) ?_
          rotate_left
          · (intro w hSw; (try dsimp only at hSw); go_simp; try with_reducible rfl)
          simp only [Act.put, List.setIfInBounds_toArray, List.set_cons_zero, List.set_cons_succ]
          refine wpAnyH_take (i := 2) (oi := { dst := some 50, op := Op.move (Operand.tmp 0), type := 22, pos := "more.go:50", after := _, guard := some (1, true) }) (v := ?_) rfl (by kernel_rfl) (by kernel_rfl) (by kernel_rfl) (fun _ _ _ h => h) (Or.inl ⟨by rfl, ?_⟩) (by assumption) ?_
          rotate_left
          · (intro w hSw; (try dsimp only at hSw); go_simp; try with_reducible rfl)
          simp only [Act.put, List.setIfInBounds_toArray, List.set_cons_zero, List.set_cons_succ]
          refine wpAnyH_take (i := 3) (oi := { dst := some 51, op := Op.move (Operand.tmp 8), type := 3, pos := "more.go:50", after := _, guard := some (1, true) }) (v := ?_) rfl (by kernel_rfl) (by kernel_rfl) (by kernel_rfl) (fun _ _ _ h => h) (Or.inl ⟨by rfl, ?_⟩) (by assumption) ?_
          rotate_left
          · (intro w hSw; (try dsimp only at hSw); go_simp; try with_reducible rfl)
          simp only [Act.put, List.setIfInBounds_toArray, List.set_cons_zero, List.set_cons_succ]
          refine wpAnyH_take (i := 4) (oi := { dst := some 52, op := Op.indexAddr 22 (Operand.tmp 50) (Operand.tmp 51), type := 0, pos := "more.go:50", after := _, guard := some (1, true) }) (v := ?_) rfl (by kernel_rfl) (by kernel_rfl) (by kernel_rfl) (fun _ _ _ h => h) (Or.inl ⟨by rfl, ?_⟩) (by assumption) ?_
          rotate_left
          · (intro w hSw; (try dsimp only at hSw); go_simp; try with_reducible rfl)
          simp only [Act.put, List.setIfInBounds_toArray, List.set_cons_zero, List.set_cons_succ]
          refine wpAnyH_take (i := 5) (oi := { dst := some 53, op := Op.fieldAddr 26 (Operand.tmp 52) 1, type := 0, pos := "more.go:50", after := _, guard := some (1, true) }) (v := ?_) rfl (by kernel_rfl) (by kernel_rfl) (by kernel_rfl) (fun _ _ _ h => h) (Or.inl ⟨by rfl, ?_⟩) (by assumption) ?_
          rotate_left
          · (intro w hSw; (try dsimp only at hSw); go_simp; try with_reducible rfl)
          simp only [Act.put, List.setIfInBounds_toArray, List.set_cons_zero, List.set_cons_succ]
          refine wpAnyH_take (i := 6) (oi := { dst := some 54, op := Op.load 3 (Operand.tmp 53), type := 3, pos := "more.go:50", after := _, guard := some (1, true) }) (v := ?_) rfl (by kernel_rfl) (by kernel_rfl) (by kernel_rfl) (fun _ _ _ h => h) (Or.inl ⟨by rfl, ?_⟩) (by assumption) ?_
          rotate_left
          · (intro W hSw; (try dsimp only at hSw); obtain ⟨hs0S, hs1S, hs2S⟩ := hSw; have c0_0 : W.cell? ⟨v1.heap.size, 0, none⟩ = some (.int .i64 0) := (BoxAt.cell hs0S 0).trans rfl; have c0_1 : W.cell? ⟨v1.heap.size, 1, none⟩ = some (.int .i64 1) := (BoxAt.cell hs0S 1).trans rfl; have c0_2 : W.cell? ⟨v1.heap.size, 2, none⟩ = some (.bool true) := (BoxAt.cell hs0S 2).trans rfl; have c0_3 : W.cell? ⟨v1.heap.size, 3, none⟩ = some (.slice u1.a u1.n u1.c) := (BoxAt.cell hs0S 3).trans rfl; clear hs0S; go_simp; try with_reducible rfl)
          simp only [Act.put, List.setIfInBounds_toArray, List.set_cons_zero, List.set_cons_succ]
          refine wpAnyH_take (i := 7) (oi := { dst := some 55, op := Op.move (Operand.tmp 0), type := 22, pos := "more.go:50", after := _, guard := some (1, true) }) (v := ?_) rfl (by kernel_rfl) (by kernel_rfl) (by kernel_rfl) (fun _ _ _ h => h) (Or.inl ⟨by rfl, ?_⟩) (by assumption) ?_
          rotate_left
          · (intro w hSw; (try dsimp only at hSw); go_simp; try with_reducible rfl)
          simp only [Act.put, List.setIfInBounds_toArray, List.set_cons_zero, List.set_cons_succ]
          refine wpAnyH_take (i := 8) (oi := { dst := some 56, op := Op.move (Operand.tmp 7), type := 3, pos := "more.go:50", after := _, guard := some (1, true) }) (v := ?_) rfl (by kernel_rfl) (by kernel_rfl) (by kernel_rfl) (fun _ _ _ h => h) (Or.inl ⟨by rfl, ?_⟩) (by assumption) ?_
          rotate_left
          · (intro w hSw; (try dsimp only at hSw); go_simp; try with_reducible rfl)
          simp only [Act.put, List.setIfInBounds_toArray, List.set_cons_zero, List.set_cons_succ]
          refine wpAnyH_take (i := 9) (oi := { dst := some 57, op := Op.indexAddr 22 (Operand.tmp 55) (Operand.tmp 56), type := 0, pos := "more.go:50", after := _, guard := some (1, true) }) (v := ?_) rfl (by kernel_rfl) (by kernel_rfl) (by kernel_rfl) (fun _ _ _ h => h) (Or.inl ⟨by rfl, ?_⟩) (by assumption) ?_
          rotate_left
          · (intro w hSw; (try dsimp only at hSw); go_simp; try with_reducible rfl)
          simp only [Act.put, List.setIfInBounds_toArray, List.set_cons_zero, List.set_cons_succ]
          refine wpAnyH_take (i := 10) (oi := { dst := some 58, op := Op.fieldAddr 26 (Operand.tmp 57) 1, type := 0, pos := "more.go:50", after := _, guard := some (1, true) }) (v := ?_) rfl (by kernel_rfl) (by kernel_rfl) (by kernel_rfl) (fun _ _ _ h => h) (Or.inl ⟨by rfl, ?_⟩) (by assumption) ?_
          rotate_left
          · (intro w hSw; (try dsimp only at hSw); go_simp; try with_reducible rfl)
          simp only [Act.put, List.setIfInBounds_toArray, List.set_cons_zero, List.set_cons_succ]
          refine wpAnyH_take (i := 11) (oi := { dst := some 59, op := Op.load 3 (Operand.tmp 58), type := 3, pos := "more.go:50", after := _, guard := some (1, true) }) (v := ?_) rfl (by kernel_rfl) (by kernel_rfl) (by kernel_rfl) (fun _ _ _ h => h) (Or.inl ⟨by rfl, ?_⟩) (by assumption) ?_
          rotate_left
          · (intro W hSw; (try dsimp only at hSw); obtain ⟨hs0S, hs1S, hs2S⟩ := hSw; have c0_0 : W.cell? ⟨v1.heap.size, 0, none⟩ = some (.int .i64 0) := (BoxAt.cell hs0S 0).trans rfl; have c0_1 : W.cell? ⟨v1.heap.size, 1, none⟩ = some (.int .i64 1) := (BoxAt.cell hs0S 1).trans rfl; have c0_2 : W.cell? ⟨v1.heap.size, 2, none⟩ = some (.bool true) := (BoxAt.cell hs0S 2).trans rfl; have c0_3 : W.cell? ⟨v1.heap.size, 3, none⟩ = some (.slice u1.a u1.n u1.c) := (BoxAt.cell hs0S 3).trans rfl; clear hs0S; go_simp; try with_reducible rfl)
          simp only [Act.put, List.setIfInBounds_toArray, List.set_cons_zero, List.set_cons_succ]
          refine wpAnyH_take (i := 12) (oi := { dst := some 60, op := Op.binOp BinOp.gtr 3 (Operand.tmp 54) (Operand.tmp 59) 3, type := 4, pos := "more.go:50", after := _, guard := some (1, true) }) (v := ?_) rfl (by kernel_rfl) (by kernel_rfl) (by kernel_rfl) (fun _ _ _ h => h) (Or.inl ⟨by rfl, ?_⟩) (by assumption) ?_
          rotate_left
          · (intro W hSw; (try dsimp only at hSw); obtain ⟨hs0S, hs1S, hs2S⟩ := hSw; clear hs0S; go_simp; try with_reducible rfl)
          simp only [Act.put, List.setIfInBounds_toArray, List.set_cons_zero, List.set_cons_succ]
          refine wpAnyH_take (i := 13) (oi := { dst := some 61, op := Op.pick (Operand.tmp 49) (Operand.tmp 60) (Operand.const (Value.bool false)), type := 4, pos := "more.go:50", after := _, guard := none }) (v := ?_) rfl (by kernel_rfl) (by kernel_rfl) (by kernel_rfl) (fun _ _ _ h => h) (Or.inl ⟨by rfl, ?_⟩) (by assumption) ?_
          rotate_left
          · (intro w hSw; (try dsimp only at hSw); go_simp; try with_reducible rfl)
          simp only [Act.put, List.setIfInBounds_toArray, List.set_cons_zero, List.set_cons_succ]
          refine wpAnyH_done (by kernel_rfl) ?_ _
          clear hHeld
          go_wp2
          go_roundw
          case rel => exact ⟨i + 1, i, addP T ⟨y0, y1, y2⟩ true, u1, by omega, by rfl, by go_num, by omega, by omega, by rw [addP_len, HTN.out], fun _ => by rw [HRS.out, if_pos (by simp; exact HPR.out), HY.out], BB.out, HU1.out, HB.out⟩
          case measure => simp [intOf]; omega
        · have hpd : decide (f1 < y1) = false := decide_eq_false hpr
          have HPR := hid hpr
          clear hpr
          have BB := hid (BoxAt.drew BB.out)
          have CB := hid (BoxAt.drew CB.out)
          have HU1 := hid (HU1.out.below ((Below.refl v8.heap.size v8).drew))
          have HB := hid (HB.out.drew)
          have hsv9 : v8.heap.size ≤ v8.drew.heap.size := Nat.le_refl _
          refine wp_region_held_drew (S := (fun w' : World => BoxAt w' (v1.heap.size) 24 #[.int .i64 0, .int .i64 1, .bool true, .slice u1.a u1.n u1.c] ∧ w'.cell? ⟨bb, off + i * 3 + 1, none⟩ = some (.int .i64 y1) ∧ w'.cell? ⟨bb, off + bi * 3 + 1, none⟩ = some (.int .i64 f1))) (by kernel_rfl) (⟨BB.out, (HB.out.cell (by exact hbw)).trans c1.out, (HB.out.cell (by exact hbw)).trans d1.out⟩) (fun hHeld => ?_)
          generalize v8.drew = v9 at *
          refine wpAnyH_take (i := 0) (oi := { dst := some 48, op := Op.move (Operand.tmp 1), type := 4, pos := "more.go:50", after := _, guard := none }) (v := ?_) rfl (by kernel_rfl) (by kernel_rfl) (by kernel_rfl) (fun _ _ _ h => h) (Or.inl ⟨by rfl, ?_⟩) (by assumption) ?_
          rotate_left
          · (intro w hSw; (try dsimp only at hSw); go_simp; try with_reducible rfl)
          simp only [Act.put, List.setIfInBounds_toArray, List.set_cons_zero, List.set_cons_succ]
          refine wpAnyH_take (i := 1) (oi := { dst := some 49, op := Op.move (Operand.tmp 48), type := 4, pos := "more.go:50", after := _, guard := none }) (v := ?_) rfl (by kernel_rfl) (by kernel_rfl) (by kernel_rfl) (fun _ _ _ h => h) (Or.inl ⟨by rfl, ?_⟩) (by assumption) ?_
          rotate_left
          · (intro w hSw; (try dsimp only at hSw); go_simp; try with_reducible rfl)
          simp only [Act.put, List.setIfInBounds_toArray, List.set_cons_zero, List.set_cons_succ]
          refine wpAnyH_take (i := 2) (oi := { dst := some 50, op := Op.move (Operand.tmp 0), type := 22, pos := "more.go:50", after := _, guard := some (1, true) }) (v := ?_) rfl (by kernel_rfl) (by kernel_rfl) (by kernel_rfl) (fun _ _ _ h => h) (Or.inl ⟨by rfl, ?_⟩) (by assumption) ?_
          rotate_left
          · (intro w hSw; (try dsimp only at hSw); go_simp; try with_reducible rfl)
          simp only [Act.put, List.setIfInBounds_toArray, List.set_cons_zero, List.set_cons_succ]
          refine wpAnyH_take (i := 3) (oi := { dst := some 51, op := Op.move (Operand.tmp 8), type := 3, pos := "more.go:50", after := _, guard := some (1, true) }) (v := ?_) rfl (by kernel_rfl) (by kernel_rfl) (by kernel_rfl) (fun _ _ _ h => h) (Or.inl ⟨by rfl, ?_⟩) (by assumption) ?_
          rotate_left
          · (intro w hSw; (try dsimp only at hSw); go_simp; try with_reducible rfl)
          simp only [Act.put, List.setIfInBounds_toArray, List.set_cons_zero, List.set_cons_succ]
          refine wpAnyH_take (i := 4) (oi := { dst := some 52, op := Op.indexAddr 22 (Operand.tmp 50) (Operand.tmp 51), type := 0, pos := "more.go:50", after := _, guard := some (1, true) }) (v := ?_) rfl (by kernel_rfl) (by kernel_rfl) (by kernel_rfl) (fun _ _ _ h => h) (Or.inl ⟨by rfl, ?_⟩) (by assumption) ?_
          rotate_left
          · (intro w hSw; (try dsimp only at hSw); go_simp; try with_reducible rfl)
          simp only [Act.put, List.setIfInBounds_toArray, List.set_cons_zero, List.set_cons_succ]
          refine wpAnyH_take (i := 5) (oi := { dst := some 53, op := Op.fieldAddr 26 (Operand.tmp 52) 1, type := 0, pos := "more.go:50", after := _, guard := some (1, true) }) (v := ?_) rfl (by kernel_rfl) (by kernel_rfl) (by kernel_rfl) (fun _ _ _ h => h) (Or.inl ⟨by rfl, ?_⟩) (by assumption) ?_
          rotate_left
          · (intro w hSw; (try dsimp only at hSw); go_simp; try with_reducible rfl)
          simp only [Act.put, List.setIfInBounds_toArray, List.set_cons_zero, List.set_cons_succ]
          refine wpAnyH_take (i := 6) (oi := { dst := some 54, op := Op.load 3 (Operand.tmp 53), type := 3, pos := "more.go:50", after := _, guard := some (1, true) }) (v := ?_) rfl (by kernel_rfl) (by kernel_rfl) (by kernel_rfl) (fun _ _ _ h => h) (Or.inl ⟨by rfl, ?_⟩) (by assumption) ?_
          rotate_left
          · (intro W hSw; (try dsimp only at hSw); obtain ⟨hs0S, hs1S, hs2S⟩ := hSw; have c0_0 : W.cell? ⟨v1.heap.size, 0, none⟩ = some (.int .i64 0) := (BoxAt.cell hs0S 0).trans rfl; have c0_1 : W.cell? ⟨v1.heap.size, 1, none⟩ = some (.int .i64 1) := (BoxAt.cell hs0S 1).trans rfl; have c0_2 : W.cell? ⟨v1.heap.size, 2, none⟩ = some (.bool true) := (BoxAt.cell hs0S 2).trans rfl; have c0_3 : W.cell? ⟨v1.heap.size, 3, none⟩ = some (.slice u1.a u1.n u1.c) := (BoxAt.cell hs0S 3).trans rfl; clear hs0S; go_simp; try with_reducible rfl)
          simp only [Act.put, List.setIfInBounds_toArray, List.set_cons_zero, List.set_cons_succ]
          refine wpAnyH_take (i := 7) (oi := { dst := some 55, op := Op.move (Operand.tmp 0), type := 22, pos := "more.go:50", after := _, guard := some (1, true) }) (v := ?_) rfl (by kernel_rfl) (by kernel_rfl) (by kernel_rfl) (fun _ _ _ h => h) (Or.inl ⟨by rfl, ?_⟩) (by assumption) ?_
          rotate_left
          · (intro w hSw; (try dsimp only at hSw); go_simp; try with_reducible rfl)
          simp only [Act.put, List.setIfInBounds_toArray, List.set_cons_zero, List.set_cons_succ]
          refine wpAnyH_take (i := 8) (oi := { dst := some 56, op := Op.move (Operand.tmp 7), type := 3, pos := "more.go:50", after := _, guard := some (1, true) }) (v := ?_) rfl (by kernel_rfl) (by kernel_rfl) (by kernel_rfl) (fun _ _ _ h => h) (Or.inl ⟨by rfl, ?_⟩) (by assumption) ?_
          rotate_left
          · (intro w hSw; (try dsimp only at hSw); go_simp; try with_reducible rfl)
          simp only [Act.put, List.setIfInBounds_toArray, List.set_cons_zero, List.set_cons_succ]
          refine wpAnyH_take (i := 9) (oi := { dst := some 57, op := Op.indexAddr 22 (Operand.tmp 55) (Operand.tmp 56), type := 0, pos := "more.go:50", after := _, guard := some (1, true) }) (v := ?_) rfl (by kernel_rfl) (by kernel_rfl) (by kernel_rfl) (fun _ _ _ h => h) (Or.inl ⟨by rfl, ?_⟩) (by assumption) ?_
          rotate_left
          · (intro w hSw; (try dsimp only at hSw); go_simp; try with_reducible rfl)
          simp only [Act.put, List.setIfInBounds_toArray, List.set_cons_zero, List.set_cons_succ]
          refine wpAnyH_take (i := 10) (oi := { dst := some 58, op := Op.fieldAddr 26 (Operand.tmp 57) 1, type := 0, pos := "more.go:50", after := _, guard := some (1, true) }) (v := ?_) rfl (by kernel_rfl) (by kernel_rfl) (by kernel_rfl) (fun _ _ _ h => h) (Or.inl ⟨by rfl, ?_⟩) (by assumption) ?_
          rotate_left
          · (intro w hSw; (try dsimp only at hSw); go_simp; try with_reducible rfl)
          simp only [Act.put, List.setIfInBounds_toArray, List.set_cons_zero, List.set_cons_succ]
          refine wpAnyH_take (i := 11) (oi := { dst := some 59, op := Op.load 3 (Operand.tmp 58), type := 3, pos := "more.go:50", after := _, guard := some (1, true) }) (v := ?_) rfl (by kernel_rfl) (by kernel_rfl) (by kernel_rfl) (fun _ _ _ h => h) (Or.inl ⟨by rfl, ?_⟩) (by assumption) ?_
          rotate_left
          · (intro W hSw; (try dsimp only at hSw); obtain ⟨hs0S, hs1S, hs2S⟩ := hSw; have c0_0 : W.cell? ⟨v1.heap.size, 0, none⟩ = some (.int .i64 0) := (BoxAt.cell hs0S 0).trans rfl; have c0_1 : W.cell? ⟨v1.heap.size, 1, none⟩ = some (.int .i64 1) := (BoxAt.cell hs0S 1).trans rfl; have c0_2 : W.cell? ⟨v1.heap.size, 2, none⟩ = some (.bool true) := (BoxAt.cell hs0S 2).trans rfl; have c0_3 : W.cell? ⟨v1.heap.size, 3, none⟩ = some (.slice u1.a u1.n u1.c) := (BoxAt.cell hs0S 3).trans rfl; clear hs0S; go_simp; try with_reducible rfl)
          simp only [Act.put, List.setIfInBounds_toArray, List.set_cons_zero, List.set_cons_succ]
          refine wpAnyH_take (i := 12) (oi := { dst := some 60, op := Op.binOp BinOp.gtr 3 (Operand.tmp 54) (Operand.tmp 59) 3, type := 4, pos := "more.go:50", after := _, guard := some (1, true) }) (v := ?_) rfl (by kernel_rfl) (by kernel_rfl) (by kernel_rfl) (fun _ _ _ h => h) (Or.inl ⟨by rfl, ?_⟩) (by assumption) ?_
          rotate_left
          · (intro W hSw; (try dsimp only at hSw); obtain ⟨hs0S, hs1S, hs2S⟩ := hSw; clear hs0S; go_simp; try with_reducible rfl)
          simp only [Act.put, List.setIfInBounds_toArray, List.set_cons_zero, List.set_cons_succ]
          refine wpAnyH_take (i := 13) (oi := { dst := some 61, op := Op.pick (Operand.tmp 49) (Operand.tmp 60) (Operand.const (Value.bool false)), type := 4, pos := "more.go:50", after := _, guard := none }) (v := ?_) rfl (by kernel_rfl) (by kernel_rfl) (by kernel_rfl) (fun _ _ _ h => h) (Or.inl ⟨by rfl, ?_⟩) (by assumption) ?_
          rotate_left
          · (intro w hSw; (try dsimp only at hSw); go_simp; try with_reducible rfl)
          simp only [Act.put, List.setIfInBounds_toArray, List.set_cons_zero, List.set_cons_succ]
          refine wpAnyH_done (by kernel_rfl) ?_ _
          clear hHeld
          go_wp2
          go_roundw
          case rel => exact ⟨i + 1, bi, addP T ⟨y0, y1, y2⟩ true, u1, by omega, by rfl, by go_num, by omega, by omega, by rw [addP_len, HTN.out], fun _ => by rw [HRS.out, if_neg (by simp; have := HPR.out; omega), HF.out], BB.out, HU1.out, HB.out⟩
          case measure => simp [intOf]; omega
      case' b1006_9 =>
        refine step_new rfl 24 rfl _ Try.zeroSe ?_
        intro v5 b h z
        have CB := hid (show BoxAt v5 v4.heap.size 24 #[.int .i64 0, .int .i64 0, .bool false, .slice none 0 0] from b)
        have BB := hid (BB.out.belowAll h)
        have HU := hid (HU.out.below h)
        have HB := hid (HB.out.trans (h.mono HB.out.size))
        have hsv5 : v4.heap.size + 1 ≤ v5.heap.size := by first | exact h.size | omega
        clear b h z
        refine hK1006.out _ _ (⟨BB.out, (HB.out.cell (by exact hbw)).trans c0.out, (HB.out.cell (by exact hbw)).trans c1.out, (HB.out.cell (by exact hbw)).trans c2.out⟩) (fun hHeld1006 => ?_)
        clear hK1006 K1006
        try simp only [Act.put, List.setIfInBounds_toArray, List.set_cons_zero, List.set_cons_succ]
        refine wpAnyH_ready (rs := [5]) (by kernel_rfl) (by simp) (AllReadyH.cons (o := { dst := some 42, op := Op.call { callee := Callee.value (Operand.func 9), args := #[Operand.tmp 37, Operand.tmp 41, Operand.const (Value.bool true)], argTypes := #[24, 26, 4] }, type := 28, pos := "more.go:45", after := _, guard := none }) rfl (fun K1013 hK1013 => ?_) AllReadyH.nil)
        have HBt := HB.out.size
        go_simp
        refine (get_any 0 1 k y0 y1 y2 true (s := u) (l := T) HU.out.sees (by rw [HTN.out]; omega)).mono ?_
        rintro e v6 ⟨u1, rfl, hu, hb⟩
        have BB := hid (BB.out.belowAll hb)
        have CB := hid (CB.out.belowAll hb)
        have HU := hid (HU.out.below hb)
        have HB := hid (HB.out.trans (hb.mono HB.out.size))
        have hsv6 : v5.heap.size ≤ v6.heap.size := by first | exact hb.size | omega
        rw [show getN 0 = 0 from rfl, show getC 0 true = 6 from rfl]
        rw [show getL 0 k T ⟨y0, y1, y2⟩ true = addP T ⟨y0, y1, y2⟩ k from rfl] at hu
        have HU1 := hid (hu.mono HBt)
        clear hu HBt HU
        clear hb
        refine hK1013.out _ _ (⟨BB.out, (HB.out.cell (by exact hbw)).trans c0.out, (HB.out.cell (by exact hbw)).trans c1.out, (HB.out.cell (by exact hbw)).trans c2.out⟩) (fun hHeld1013 => ?_)
        clear hK1013 K1013
        try simp only [Act.put, List.setIfInBounds_toArray, List.set_cons_zero, List.set_cons_succ]
        refine wpAnyH_take (i := 6) (oi := { dst := some 36, op := Op.move (Operand.tmp 42), type := 28, pos := "more.go:45", after := _, guard := none }) (v := ?_) rfl (by kernel_rfl) (by kernel_rfl) (by kernel_rfl) (fun _ _ _ h => h) (Or.inl ⟨by rfl, ?_⟩) (by assumption) ?_
        rotate_left
        · (intro w hSw; (try dsimp only at hSw); go_simp; try with_reducible rfl)
        simp only [Act.put, List.setIfInBounds_toArray, List.set_cons_zero, List.set_cons_succ]
        refine wpAnyH_take (i := 7) (oi := { dst := some 43, op := Op.extract (Operand.tmp 36) 0, type := 24, pos := "more.go:45", after := _, guard := none }) (v := ?_) rfl (by kernel_rfl) (by kernel_rfl) (by kernel_rfl) (fun _ _ _ h => h) (Or.inl ⟨by rfl, ?_⟩) (by assumption) ?_
        rotate_left
        · (intro w hSw; (try dsimp only at hSw); go_simp; try with_reducible rfl)
        simp only [Act.put, List.setIfInBounds_toArray, List.set_cons_zero, List.set_cons_succ]
        refine wpAnyH_take (i := 8) (oi := { dst := some 44, op := Op.extract (Operand.tmp 36) 1, type := 3, pos := "more.go:45", after := _, guard := none }) (v := ?_) rfl (by kernel_rfl) (by kernel_rfl) (by kernel_rfl) (fun _ _ _ h => h) (Or.inl ⟨by rfl, ?_⟩) (by assumption) ?_
        rotate_left
        · (intro w hSw; (try dsimp only at hSw); go_simp; try with_reducible rfl)
        simp only [Act.put, List.setIfInBounds_toArray, List.set_cons_zero, List.set_cons_succ]
        refine wpAnyH_ready (rs := [10]) (by kernel_rfl) (by simp) (AllReadyH.cons (o := { dst := none, op := Op.store 24 (Operand.tmp 9) (Operand.tmp 43), type := 0, pos := "more.go:45", after := _, guard := none }) rfl (fun K1017 hK1017 => ?_) AllReadyH.nil)
        refine step_store_whole rfl 24 _ _ rfl (v4.heap.size) rfl [.int .i64 0, .int .i64 1, .bool k, .slice u1.a u1.n u1.c] rfl _ _ CB.out rfl Try.infoSe (by simp [Value.oneCell']) ?_
        intro v7 b g z
        have hsv7 : v6.heap.size ≤ v7.heap.size := by omega
        have HU1 := hid (HU1.out.put g CB.out (by decide))
        have CB := hid (show BoxAt v7 (v4.heap.size) 24 #[.int .i64 0, .int .i64 1, .bool k, .slice u1.a u1.n u1.c] from b)
        have BB := hid (BB.out.grown g (fun e => by have := Option.some.inj e; omega))
        have HB := hid (HB.out.trans (grown_below g (by omega) (by omega)))
        clear b g z
        refine hK1017.out _ _ (⟨BB.out, (HB.out.cell (by exact hbw)).trans c0.out, (HB.out.cell (by exact hbw)).trans c1.out, (HB.out.cell (by exact hbw)).trans c2.out⟩) (fun hHeld1017 => ?_)
        clear hK1017 K1017
        try simp only [Act.put]
        refine wpAnyH_take (i := 11) (oi := { dst := some 10, op := Op.assign (Operand.tmp 44), type := 3, pos := "more.go:45", after := _, guard := none }) (v := ?_) rfl (by kernel_rfl) (by kernel_rfl) (by kernel_rfl) (fun _ _ _ h => h) (Or.inl ⟨by rfl, ?_⟩) (by assumption) ?_
        rotate_left
        · (intro w hSw; (try dsimp only at hSw); go_simp; try with_reducible rfl)
        simp only [Act.put, List.setIfInBounds_toArray, List.set_cons_zero, List.set_cons_succ]
        refine wpAnyH_done (by kernel_rfl) ?_ _
        clear hHeld hHeld1006 hHeld1013 hHeld1017
        have FL3 := hid trivial
        go_wp2_with (first
          | (refine wpList_load_box rfl 24 _ rfl (v4.heap.size) rfl _ _ CB.out _ Try.underlying24 Try.infoSe ?_)
          | (have hfl := FL3.out
             refine wpList_store_whole rfl 24 _ _ rfl rfl (v1.heap.size) rfl [.int .i64 0, .int .i64 1, .bool k, .slice u1.a u1.n u1.c] rfl _ _ BB.out rfl Try.infoSe (by simp [Value.oneCell']) ?_
             intro v8 b g z
             have hsv8 : v7.heap.size ≤ v8.heap.size := by omega
             have HU1 := hid (HU1.out.put g BB.out (by decide))
             have BB := hid (show BoxAt v8 (v1.heap.size) 24 #[.int .i64 0, .int .i64 1, .bool k, .slice u1.a u1.n u1.c] from b)
             have CB := hid (CB.out.grown g (fun e => by have := Option.some.inj e; omega))
             have HB := hid (HB.out.trans (grown_below g (by omega) (by omega)))
             clear b g z hfl FL3
             refine Hid.out ?_)
          | fail)
        refine hid ?_
        go_wp2_with fail
        rcases k with _ | _
        · have BB := hid (BoxAt.drew BB.out)
          have CB := hid (BoxAt.drew CB.out)
          have HU1 := hid (HU1.out.below ((Below.refl v8.heap.size v8).drew))
          have HB := hid (HB.out.drew)
          have hsv9 : v8.heap.size ≤ v8.drew.heap.size := Nat.le_refl _
          refine wp_region_held_drew (S := (fun w' : World => BoxAt w' (v1.heap.size) 24 #[.int .i64 0, .int .i64 1, .bool false, .slice u1.a u1.n u1.c])) (by kernel_rfl) (BB.out) (fun hHeld => ?_)
          generalize v8.drew = v9 at *
          refine wpAnyH_take (i := 0) (oi := { dst := some 48, op := Op.move (Operand.tmp 1), type := 4, pos := "more.go:50", after := _, guard := none }) (v := ?_) rfl (by kernel_rfl) (by kernel_rfl) (by kernel_rfl) (fun _ _ _ h => h) (Or.inl ⟨by rfl, ?_⟩) (by assumption) ?_
          rotate_left
          · (intro w hSw; (try dsimp only at hSw); go_simp; try with_reducible rfl)
          simp only [Act.put, List.setIfInBounds_toArray, List.set_cons_zero, List.set_cons_succ]
          refine wpAnyH_take (i := 1) (oi := { dst := some 49, op := Op.move (Operand.tmp 48), type := 4, pos := "more.go:50", after := _, guard := none }) (v := ?_) rfl (by kernel_rfl) (by kernel_rfl) (by kernel_rfl) (fun _ _ _ h => h) (Or.inl ⟨by rfl, ?_⟩) (by assumption) ?_
          rotate_left
          · (intro w hSw; (try dsimp only at hSw); go_simp; try with_reducible rfl)
          simp only [Act.put, List.setIfInBounds_toArray, List.set_cons_zero, List.set_cons_succ]
          refine wpAnyH_take (i := 2) (oi := { dst := some 50, op := Op.move (Operand.tmp 0), type := 22, pos := "more.go:50", after := _, guard := some (1, true) }) (v := undef) rfl (by kernel_rfl) (by kernel_rfl) (by kernel_rfl) (fun _ _ _ h => h) (Or.inr ⟨by rfl, rfl⟩) (by assumption) ?_
          simp only [Act.put, List.setIfInBounds_toArray, List.set_cons_zero, List.set_cons_succ]
          refine wpAnyH_take (i := 3) (oi := { dst := some 51, op := Op.move (Operand.tmp 8), type := 3, pos := "more.go:50", after := _, guard := some (1, true) }) (v := undef) rfl (by kernel_rfl) (by kernel_rfl) (by kernel_rfl) (fun _ _ _ h => h) (Or.inr ⟨by rfl, rfl⟩) (by assumption) ?_
          simp only [Act.put, List.setIfInBounds_toArray, List.set_cons_zero, List.set_cons_succ]
          refine wpAnyH_take (i := 4) (oi := { dst := some 52, op := Op.indexAddr 22 (Operand.tmp 50) (Operand.tmp 51), type := 0, pos := "more.go:50", after := _, guard := some (1, true) }) (v := undef) rfl (by kernel_rfl) (by kernel_rfl) (by kernel_rfl) (fun _ _ _ h => h) (Or.inr ⟨by rfl, rfl⟩) (by assumption) ?_
          simp only [Act.put, List.setIfInBounds_toArray, List.set_cons_zero, List.set_cons_succ]
          refine wpAnyH_take (i := 5) (oi := { dst := some 53, op := Op.fieldAddr 26 (Operand.tmp 52) 1, type := 0, pos := "more.go:50", after := _, guard := some (1, true) }) (v := undef) rfl (by kernel_rfl) (by kernel_rfl) (by kernel_rfl) (fun _ _ _ h => h) (Or.inr ⟨by rfl, rfl⟩) (by assumption) ?_
          simp only [Act.put, List.setIfInBounds_toArray, List.set_cons_zero, List.set_cons_succ]
          refine wpAnyH_take (i := 6) (oi := { dst := some 54, op := Op.load 3 (Operand.tmp 53), type := 3, pos := "more.go:50", after := _, guard := some (1, true) }) (v := undef) rfl (by kernel_rfl) (by kernel_rfl) (by kernel_rfl) (fun _ _ _ h => h) (Or.inr ⟨by rfl, rfl⟩) (by assumption) ?_
          simp only [Act.put, List.setIfInBounds_toArray, List.set_cons_zero, List.set_cons_succ]
          refine wpAnyH_take (i := 7) (oi := { dst := some 55, op := Op.move (Operand.tmp 0), type := 22, pos := "more.go:50", after := _, guard := some (1, true) }) (v := undef) rfl (by kernel_rfl) (by kernel_rfl) (by kernel_rfl) (fun _ _ _ h => h) (Or.inr ⟨by rfl, rfl⟩) (by assumption) ?_
          simp only [Act.put, List.setIfInBounds_toArray, List.set_cons_zero, List.set_cons_succ]
          refine wpAnyH_take (i := 8) (oi := { dst := some 56, op := Op.move (Operand.tmp 7), type := 3, pos := "more.go:50", after := _, guard := some (1, true) }) (v := undef) rfl (by kernel_rfl) (by kernel_rfl) (by kernel_rfl) (fun _ _ _ h => h) (Or.inr ⟨by rfl, rfl⟩) (by assumption) ?_
          simp only [Act.put, List.setIfInBounds_toArray, List.set_cons_zero, List.set_cons_succ]
          refine wpAnyH_take (i := 9) (oi := { dst := some 57, op := Op.indexAddr 22 (Operand.tmp 55) (Operand.tmp 56), type := 0, pos := "more.go:50", after := _, guard := some (1, true) }) (v := undef) rfl (by kernel_rfl) (by kernel_rfl) (by kernel_rfl) (fun _ _ _ h => h) (Or.inr ⟨by rfl, rfl⟩) (by assumption) ?_
          simp only [Act.put, List.setIfInBounds_toArray, List.set_cons_zero, List.set_cons_succ]
          refine wpAnyH_take (i := 10) (oi := { dst := some 58, op := Op.fieldAddr 26 (Operand.tmp 57) 1, type := 0, pos := "more.go:50", after := _, guard := some (1, true) }) (v := undef) rfl (by kernel_rfl) (by kernel_rfl) (by kernel_rfl) (fun _ _ _ h => h) (Or.inr ⟨by rfl, rfl⟩) (by assumption) ?_
          simp only [Act.put, List.setIfInBounds_toArray, List.set_cons_zero, List.set_cons_succ]
          refine wpAnyH_take (i := 11) (oi := { dst := some 59, op := Op.load 3 (Operand.tmp 58), type := 3, pos := "more.go:50", after := _, guard := some (1, true) }) (v := undef) rfl (by kernel_rfl) (by kernel_rfl) (by kernel_rfl) (fun _ _ _ h => h) (Or.inr ⟨by rfl, rfl⟩) (by assumption) ?_
          simp only [Act.put, List.setIfInBounds_toArray, List.set_cons_zero, List.set_cons_succ]
          refine wpAnyH_take (i := 12) (oi := { dst := some 60, op := Op.binOp BinOp.gtr 3 (Operand.tmp 54) (Operand.tmp 59) 3, type := 4, pos := "more.go:50", after := _, guard := some (1, true) }) (v := undef) rfl (by kernel_rfl) (by kernel_rfl) (by kernel_rfl) (fun _ _ _ h => h) (Or.inr ⟨by rfl, rfl⟩) (by assumption) ?_
          simp only [Act.put, List.setIfInBounds_toArray, List.set_cons_zero, List.set_cons_succ]
          refine wpAnyH_take (i := 13) (oi := { dst := some 61, op := Op.pick (Operand.tmp 49) (Operand.tmp 60) (Operand.const (Value.bool false)), type := 4, pos := "more.go:50", after := _, guard := none }) (v := ?_) rfl (by kernel_rfl) (by kernel_rfl) (by kernel_rfl) (fun _ _ _ h => h) (Or.inl ⟨by rfl, ?_⟩) (by assumption) ?_
          rotate_left
          · (intro w hSw; (try dsimp only at hSw); go_simp; try with_reducible rfl)
          simp only [Act.put, List.setIfInBounds_toArray, List.set_cons_zero, List.set_cons_succ]
          refine wpAnyH_done (by kernel_rfl) ?_ _
          clear hHeld
          go_wp2
          go_roundw
          case rel => exact ⟨i + 1, bi, addP T ⟨y0, y1, y2⟩ false, u1, by omega, by rfl, by go_num, by omega, by omega, by rw [addP_len, HTN.out], fun _ => by rw [HRS.out, if_neg (by simp), HF.out], BB.out, HU1.out, HB.out⟩
          case measure => simp [intOf]; omega
        by_cases hpr : f1 < y1
        · have hpd : decide (f1 < y1) = true := decide_eq_true hpr
          have HPR := hid hpr
          clear hpr
          have BB := hid (BoxAt.drew BB.out)
          have CB := hid (BoxAt.drew CB.out)
          have HU1 := hid (HU1.out.below ((Below.refl v8.heap.size v8).drew))
          have HB := hid (HB.out.drew)
          have hsv9 : v8.heap.size ≤ v8.drew.heap.size := Nat.le_refl _
          refine wp_region_held_drew (S := (fun w' : World => BoxAt w' (v1.heap.size) 24 #[.int .i64 0, .int .i64 1, .bool true, .slice u1.a u1.n u1.c] ∧ w'.cell? ⟨bb, off + i * 3 + 1, none⟩ = some (.int .i64 y1) ∧ w'.cell? ⟨bb, off + bi * 3 + 1, none⟩ = some (.int .i64 f1))) (by kernel_rfl) (⟨BB.out, (HB.out.cell (by exact hbw)).trans c1.out, (HB.out.cell (by exact hbw)).trans d1.out⟩) (fun hHeld => ?_)
          generalize v8.drew = v9 at *
          refine wpAnyH_take (i := 0) (oi := { dst := some 48, op := Op.move (Operand.tmp 1), type := 4, pos := "more.go:50", after := _, guard := none }) (v := ?_) rfl (by kernel_rfl) (by kernel_rfl) (by kernel_rfl) (fun _ _ _ h => h) (Or.inl ⟨by rfl, ?_⟩) (by assumption) ?_
          rotate_left
          · (intro w hSw; (try dsimp only at hSw); go_simp; try with_reducible rfl)
          simp only [Act.put, List.setIfInBounds_toArray, List.set_cons_zero, List.set_cons_succ]
          refine wpAnyH_take (i := 1) (oi := { dst := some 49, op := Op.move (Operand.tmp 48), type := 4, pos := "more.go:50", after := _, guard := none }) (v := ?_) rfl (by kernel_rfl) (by kernel_rfl) (by kernel_rfl) (fun _ _ _ h => h) (Or.inl ⟨by rfl, ?_⟩) (by assumption) ?_
          rotate_left
          · (intro w hSw; (try dsimp only at hSw); go_simp; try with_reducible rfl)
          simp only [Act.put, List.setIfInBounds_toArray, List.set_cons_zero, List.set_cons_succ]
          refine wpAnyH_take (i := 2) (oi := { dst := some 50, op := Op.move (Operand.tmp 0), type := 22, pos := "more.go:50", after := _, guard := some (1, true) }) (v := ?_) rfl (by kernel_rfl) (by kernel_rfl) (by kernel_rfl) (fun _ _ _ h => h) (Or.inl ⟨by rfl, ?_⟩) (by assumption) ?_
          rotate_left
          · (intro w hSw; (try dsimp only at hSw); go_simp; try with_reducible rfl)
          simp only [Act.put, List.setIfInBounds_toArray, List.set_cons_zero, List.set_cons_succ]
          refine wpAnyH_take (i := 3) (oi := { dst := some 51, op := Op.move (Operand.tmp 8), type := 3, pos := "more.go:50", after := _, guard := some (1, true) }) (v := ?_) rfl (by kernel_rfl) (by kernel_rfl) (by kernel_rfl) (fun _ _ _ h => h) (Or.inl ⟨by rfl, ?_⟩) (by assumption) ?_
          rotate_left
          · (intro w hSw; (try dsimp only at hSw); go_simp; try with_reducible rfl)
          simp only [Act.put, List.setIfInBounds_toArray, List.set_cons_zero, List.set_cons_succ]
          refine wpAnyH_take (i := 4) (oi := { dst := some 52, op := Op.indexAddr 22 (Operand.tmp 50) (Operand.tmp 51), type := 0, pos := "more.go:50", after := _, guard := some (1, true) }) (v := ?_) rfl (by kernel_rfl) (by kernel_rfl) (by kernel_rfl) (fun _ _ _ h => h) (Or.inl ⟨by rfl, ?_⟩) (by assumption) ?_
          rotate_left
          · (intro w hSw; (try dsimp only at hSw); go_simp; try with_reducible rfl)
          simp only [Act.put, List.setIfInBounds_toArray, List.set_cons_zero, List.set_cons_succ]
          refine wpAnyH_take (i := 5) (oi := { dst := some 53, op := Op.fieldAddr 26 (Operand.tmp 52) 1, type := 0, pos := "more.go:50", after := _, guard := some (1, true) }) (v := ?_) rfl (by kernel_rfl) (by kernel_rfl) (by kernel_rfl) (fun _ _ _ h => h) (Or.inl ⟨by rfl, ?_⟩) (by assumption) ?_
          rotate_left
          · (intro w hSw; (try dsimp only at hSw); go_simp; try with_reducible rfl)
          simp only [Act.put, List.setIfInBounds_toArray, List.set_cons_zero, List.set_cons_succ]
          refine wpAnyH_take (i := 6) (oi := { dst := some 54, op := Op.load 3 (Operand.tmp 53), type := 3, pos := "more.go:50", after := _, guard := some (1, true) }) (v := ?_) rfl (by kernel_rfl) (by kernel_rfl) (by kernel_rfl) (fun _ _ _ h => h) (Or.inl ⟨by rfl, ?_⟩) (by assumption) ?_
          rotate_left
          · (intro W hSw; (try dsimp only at hSw); obtain ⟨hs0S, hs1S, hs2S⟩ := hSw; have c0_0 : W.cell? ⟨v1.heap.size, 0, none⟩ = some (.int .i64 0) := (BoxAt.cell hs0S 0).trans rfl; have c0_1 : W.cell? ⟨v1.heap.size, 1, none⟩ = some (.int .i64 1) := (BoxAt.cell hs0S 1).trans rfl; have c0_2 : W.cell? ⟨v1.heap.size, 2, none⟩ = some (.bool true) := (BoxAt.cell hs0S 2).trans rfl; have c0_3 : W.cell? ⟨v1.heap.size, 3, none⟩ = some (.slice u1.a u1.n u1.c) := (BoxAt.cell hs0S 3).trans rfl; clear hs0S; go_simp; try with_reducible rfl)
          simp only [Act.put, List.setIfInBounds_toArray, List.set_cons_zero, List.set_cons_succ]
          refine wpAnyH_take (i := 7) (oi := { dst := some 55, op := Op.move (Operand.tmp 0), type := 22, pos := "more.go:50", after := _, guard := some (1, true) }) (v := ?_) rfl (by kernel_rfl) (by kernel_rfl) (by kernel_rfl) (fun _ _ _ h => h) (Or.inl ⟨by rfl, ?_⟩) (by assumption) ?_
          rotate_left
          · (intro w hSw; (try dsimp only at hSw); go_simp; try with_reducible rfl)
          simp only [Act.put, List.setIfInBounds_toArray, List.set_cons_zero, List.set_cons_succ]
          refine wpAnyH_take (i := 8) (oi := { dst := some 56, op := Op.move (Operand.tmp 7), type := 3, pos := "more.go:50", after := _, guard := some (1, true) }) (v := ?_) rfl (by kernel_rfl) (by kernel_rfl) (by kernel_rfl) (fun _ _ _ h => h) (Or.inl ⟨by rfl, ?_⟩) (by assumption) ?_
          rotate_left
          · (intro w hSw; (try dsimp only at hSw); go_simp; try with_reducible rfl)
          simp only [Act.put, List.setIfInBounds_toArray, List.set_cons_zero, List.set_cons_succ]
          refine wpAnyH_take (i := 9) (oi := { dst := some 57, op := Op.indexAddr 22 (Operand.tmp 55) (Operand.tmp 56), type := 0, pos := "more.go:50", after := _, guard := some (1, true) }) (v := ?_) rfl (by kernel_rfl) (by kernel_rfl) (by kernel_rfl) (fun _ _ _ h => h) (Or.inl ⟨by rfl, ?_⟩) (by assumption) ?_
          rotate_left
          · (intro w hSw; (try dsimp only at hSw); go_simp; try with_reducible rfl)
          simp only [Act.put, List.setIfInBounds_toArray, List.set_cons_zero, List.set_cons_succ]
          refine wpAnyH_take (i := 10) (oi := { dst := some 58, op := Op.fieldAddr 26 (Operand.tmp 57) 1, type := 0, pos := "more.go:50", after := _, guard := some (1, true) }) (v := ?_) rfl (by kernel_rfl) (by kernel_rfl) (by kernel_rfl) (fun _ _ _ h => h) (Or.inl ⟨by rfl, ?_⟩) (by assumption) ?_
          rotate_left
          · (intro w hSw; (try dsimp only at hSw); go_simp; try with_reducible rfl)
          simp only [Act.put, List.setIfInBounds_toArray, List.set_cons_zero, List.set_cons_succ]
          refine wpAnyH_take (i := 11) (oi := { dst := some 59, op := Op.load 3 (Operand.tmp 58), type := 3, pos := "more.go:50", after := _, guard := some (1, true) }) (v := ?_) rfl (by kernel_rfl) (by kernel_rfl) (by kernel_rfl) (fun _ _ _ h => h) (Or.inl ⟨by rfl, ?_⟩) (by assumption) ?_
          rotate_left
          · (intro W hSw; (try dsimp only at hSw); obtain ⟨hs0S, hs1S, hs2S⟩ := hSw; have c0_0 : W.cell? ⟨v1.heap.size, 0, none⟩ = some (.int .i64 0) := (BoxAt.cell hs0S 0).trans rfl; have c0_1 : W.cell? ⟨v1.heap.size, 1, none⟩ = some (.int .i64 1) := (BoxAt.cell hs0S 1).trans rfl; have c0_2 : W.cell? ⟨v1.heap.size, 2, none⟩ = some (.bool true) := (BoxAt.cell hs0S 2).trans rfl; have c0_3 : W.cell? ⟨v1.heap.size, 3, none⟩ = some (.slice u1.a u1.n u1.c) := (BoxAt.cell hs0S 3).trans rfl; clear hs0S; go_simp; try with_reducible rfl)
          simp only [Act.put, List.setIfInBounds_toArray, List.set_cons_zero, List.set_cons_succ]
          refine wpAnyH_take (i := 12) (oi := { dst := some 60, op := Op.binOp BinOp.gtr 3 (Operand.tmp 54) (Operand.tmp 59) 3, type := 4, pos := "more.go:50", after := _, guard := some (1, true) }) (v := ?_) rfl (by kernel_rfl) (by kernel_rfl) (by kernel_rfl) (fun _ _ _ h => h) (Or.inl ⟨by rfl, ?_⟩) (by assumption) ?_
          rotate_left
          · (intro W hSw; (try dsimp only at hSw); obtain ⟨hs0S, hs1S, hs2S⟩ := hSw; clear hs0S; go_simp; try with_reducible rfl)
          simp only [Act.put, List.setIfInBounds_toArray, List.set_cons_zero, List.set_cons_succ]
          refine wpAnyH_take (i := 13) (oi := { dst := some 61, op := Op.pick (Operand.tmp 49) (Operand.tmp 60) (Operand.const (Value.bool false)), type := 4, pos := "more.go:50", after := _, guard := none }) (v := ?_) rfl (by kernel_rfl) (by kernel_rfl) (by kernel_rfl) (fun _ _ _ h => h) (Or.inl ⟨by rfl, ?_⟩) (by assumption) ?_
          rotate_left
          · (intro w hSw; (try dsimp only at hSw); go_simp; try with_reducible rfl)
          simp only [Act.put, List.setIfInBounds_toArray, List.set_cons_zero, List.set_cons_succ]
          refine wpAnyH_done (by kernel_rfl) ?_ _
          clear hHeld
          go_wp2
          go_roundw
          case rel => exact ⟨i + 1, i, addP T ⟨y0, y1, y2⟩ true, u1, by omega, by rfl, by go_num, by omega, by omega, by rw [addP_len, HTN.out], fun _ => by rw [HRS.out, if_pos (by simp; exact HPR.out), HY.out], BB.out, HU1.out, HB.out⟩
          case measure => simp [intOf]; omega
        · have hpd : decide (f1 < y1) = false := decide_eq_false hpr
          have HPR := hid hpr
          clear hpr
          have BB := hid (BoxAt.drew BB.out)
          have CB := hid (BoxAt.drew CB.out)
          have HU1 := hid (HU1.out.below ((Below.refl v8.heap.size v8).drew))
          have HB := hid (HB.out.drew)
          have hsv9 : v8.heap.size ≤ v8.drew.heap.size := Nat.le_refl _
          refine wp_region_held_drew (S := (fun w' : World => BoxAt w' (v1.heap.size) 24 #[.int .i64 0, .int .i64 1, .bool true, .slice u1.a u1.n u1.c] ∧ w'.cell? ⟨bb, off + i * 3 + 1, none⟩ = some (.int .i64 y1) ∧ w'.cell? ⟨bb, off + bi * 3 + 1, none⟩ = some (.int .i64 f1))) (by kernel_rfl) (⟨BB.out, (HB.out.cell (by exact hbw)).trans c1.out, (HB.out.cell (by exact hbw)).trans d1.out⟩) (fun hHeld => ?_)
          generalize v8.drew = v9 at *
          refine wpAnyH_take (i := 0) (oi := { dst := some 48, op := Op.move (Operand.tmp 1), type := 4, pos := "more.go:50", after := _, guard := none }) (v := ?_) rfl (by kernel_rfl) (by kernel_rfl) (by kernel_rfl) (fun _ _ _ h => h) (Or.inl ⟨by rfl, ?_⟩) (by assumption) ?_
          rotate_left
          · (intro w hSw; (try dsimp only at hSw); go_simp; try with_reducible rfl)
          simp only [Act.put, List.setIfInBounds_toArray, List.set_cons_zero, List.set_cons_succ]
          refine wpAnyH_take (i := 1) (oi := { dst := some 49, op := Op.move (Operand.tmp 48), type := 4, pos := "more.go:50", after := _, guard := none }) (v := ?_) rfl (by kernel_rfl) (by kernel_rfl) (by kernel_rfl) (fun _ _ _ h => h) (Or.inl ⟨by rfl, ?_⟩) (by assumption) ?_
          rotate_left
          · (intro w hSw; (try dsimp only at hSw); go_simp; try with_reducible rfl)
          simp only [Act.put, List.setIfInBounds_toArray, List.set_cons_zero, List.set_cons_succ]
          refine wpAnyH_take (i := 2) (oi := { dst := some 50, op := Op.move (Operand.tmp 0), type := 22, pos := "more.go:50", after := _, guard := some (1, true) }) (v := ?_) rfl (by kernel_rfl) (by kernel_rfl) (by kernel_rfl) (fun _ _ _ h => h) (Or.inl ⟨by rfl, ?_⟩) (by assumption) ?_
          rotate_left
          · (intro w hSw; (try dsimp only at hSw); go_simp; try with_reducible rfl)
          simp only [Act.put, List.setIfInBounds_toArray, List.set_cons_zero, List.set_cons_succ]
          refine wpAnyH_take (i := 3) (oi := { dst := some 51, op := Op.move (Operand.tmp 8), type := 3, pos := "more.go:50", after := _, guard := some (1, true) }) (v := ?_) rfl (by kernel_rfl) (by kernel_rfl) (by kernel_rfl) (fun _ _ _ h => h) (Or.inl ⟨by rfl, ?_⟩) (by assumption) ?_
          rotate_left
          · (intro w hSw; (try dsimp only at hSw); go_simp; try with_reducible rfl)
          simp only [Act.put, List.setIfInBounds_toArray, List.set_cons_zero, List.set_cons_succ]
          refine wpAnyH_take (i := 4) (oi := { dst := some 52, op := Op.indexAddr 22 (Operand.tmp 50) (Operand.tmp 51), type := 0, pos := "more.go:50", after := _, guard := some (1, true) }) (v := ?_) rfl (by kernel_rfl) (by kernel_rfl) (by kernel_rfl) (fun _ _ _ h => h) (Or.inl ⟨by rfl, ?_⟩) (by assumption) ?_
          rotate_left
          · (intro w hSw; (try dsimp only at hSw); go_simp; try with_reducible rfl)
          simp only [Act.put, List.setIfInBounds_toArray, List.set_cons_zero, List.set_cons_succ]
          refine wpAnyH_take (i := 5) (oi := { dst := some 53, op := Op.fieldAddr 26 (Operand.tmp 52) 1, type := 0, pos := "more.go:50", after := _, guard := some (1, true) }) (v := ?_) rfl (by kernel_rfl) (by kernel_rfl) (by kernel_rfl) (fun _ _ _ h => h) (Or.inl ⟨by rfl, ?_⟩) (by assumption) ?_
          rotate_left
          · (intro w hSw; (try dsimp only at hSw); go_simp; try with_reducible rfl)
          simp only [Act.put, List.setIfInBounds_toArray, List.set_cons_zero, List.set_cons_succ]
          refine wpAnyH_take (i := 6) (oi := { dst := some 54, op := Op.load 3 (Operand.tmp 53), type := 3, pos := "more.go:50", after := _, guard := some (1, true) }) (v := ?_) rfl (by kernel_rfl) (by kernel_rfl) (by kernel_rfl) (fun _ _ _ h => h) (Or.inl ⟨by rfl, ?_⟩) (by assumption) ?_
          rotate_left
          · (intro W hSw; (try dsimp only at hSw); obtain ⟨hs0S, hs1S, hs2S⟩ := hSw; have c0_0 : W.cell? ⟨v1.heap.size, 0, none⟩ = some (.int .i64 0) := (BoxAt.cell hs0S 0).trans rfl; have c0_1 : W.cell? ⟨v1.heap.size, 1, none⟩ = some (.int .i64 1) := (BoxAt.cell hs0S 1).trans rfl; have c0_2 : W.cell? ⟨v1.heap.size, 2, none⟩ = some (.bool true) := (BoxAt.cell hs0S 2).trans rfl; have c0_3 : W.cell? ⟨v1.heap.size, 3, none⟩ = some (.slice u1.a u1.n u1.c) := (BoxAt.cell hs0S 3).trans rfl; clear hs0S; go_simp; try with_reducible rfl)
          simp only [Act.put, List.setIfInBounds_toArray, List.set_cons_zero, List.set_cons_succ]
          refine wpAnyH_take (i := 7) (oi := { dst := some 55, op := Op.move (Operand.tmp 0), type := 22, pos := "more.go:50", after := _, guard := some (1, true) }) (v := ?_) rfl (by kernel_rfl) (by kernel_rfl) (by kernel_rfl) (fun _ _ _ h => h) (Or.inl ⟨by rfl, ?_⟩) (by assumption) ?_
          rotate_left
          · (intro w hSw; (try dsimp only at hSw); go_simp; try with_reducible rfl)
          simp only [Act.put, List.setIfInBounds_toArray, List.set_cons_zero, List.set_cons_succ]
          refine wpAnyH_take (i := 8) (oi := { dst := some 56, op := Op.move (Operand.tmp 7), type := 3, pos := "more.go:50", after := _, guard := some (1, true) }) (v := ?_) rfl (by kernel_rfl) (by kernel_rfl) (by kernel_rfl) (fun _ _ _ h => h) (Or.inl ⟨by rfl, ?_⟩) (by assumption) ?_
          rotate_left
          · (intro w hSw; (try dsimp only at hSw); go_simp; try with_reducible rfl)
          simp only [Act.put, List.setIfInBounds_toArray, List.set_cons_zero, List.set_cons_succ]
          refine wpAnyH_take (i := 9) (oi := { dst := some 57, op := Op.indexAddr 22 (Operand.tmp 55) (Operand.tmp 56), type := 0, pos := "more.go:50", after := _, guard := some (1, true) }) (v := ?_) rfl (by kernel_rfl) (by kernel_rfl) (by kernel_rfl) (fun _ _ _ h => h) (Or.inl ⟨by rfl, ?_⟩) (by assumption) ?_
          rotate_left
          · (intro w hSw; (try dsimp only at hSw); go_simp; try with_reducible rfl)
          simp only [Act.put, List.setIfInBounds_toArray, List.set_cons_zero, List.set_cons_succ]
          refine wpAnyH_take (i := 10) (oi := { dst := some 58, op := Op.fieldAddr 26 (Operand.tmp 57) 1, type := 0, pos := "more.go:50", after := _, guard := some (1, true) }) (v := ?_) rfl (by kernel_rfl) (by kernel_rfl) (by kernel_rfl) (fun _ _ _ h => h) (Or.inl ⟨by rfl, ?_⟩) (by assumption) ?_
          rotate_left
          · (intro w hSw; (try dsimp only at hSw); go_simp; try with_reducible rfl)
          simp only [Act.put, List.setIfInBounds_toArray, List.set_cons_zero, List.set_cons_succ]
          refine wpAnyH_take (i := 11) (oi := { dst := some 59, op := Op.load 3 (Operand.tmp 58), type := 3, pos := "more.go:50", after := _, guard := some (1, true) }) (v := ?_) rfl (by kernel_rfl) (by kernel_rfl) (by kernel_rfl) (fun _ _ _ h => h) (Or.inl ⟨by rfl, ?_⟩) (by assumption) ?_
          rotate_left
          · (intro W hSw; (try dsimp only at hSw); obtain ⟨hs0S, hs1S, hs2S⟩ := hSw; have c0_0 : W.cell? ⟨v1.heap.size, 0, none⟩ = some (.int .i64 0) := (BoxAt.cell hs0S 0).trans rfl; have c0_1 : W.cell? ⟨v1.heap.size, 1, none⟩ = some (.int .i64 1) := (BoxAt.cell hs0S 1).trans rfl; have c0_2 : W.cell? ⟨v1.heap.size, 2, none⟩ = some (.bool true) := (BoxAt.cell hs0S 2).trans rfl; have c0_3 : W.cell? ⟨v1.heap.size, 3, none⟩ = some (.slice u1.a u1.n u1.c) := (BoxAt.cell hs0S 3).trans rfl; clear hs0S; go_simp; try with_reducible rfl)
          simp only [Act.put, List.setIfInBounds_toArray, List.set_cons_zero, List.set_cons_succ]
          refine wpAnyH_take (i := 12) (oi := { dst := some 60, op := Op.binOp BinOp.gtr 3 (Operand.tmp 54) (Operand.tmp 59) 3, type := 4, pos := "more.go:50", after := _, guard := some (1, true) }) (v := ?_) rfl (by kernel_rfl) (by kernel_rfl) (by kernel_rfl) (fun _ _ _ h => h) (Or.inl ⟨by rfl, ?_⟩) (by assumption) ?_
          rotate_left
          · (intro W hSw; (try dsimp only at hSw); obtain ⟨hs0S, hs1S, hs2S⟩ := hSw; clear hs0S; go_simp; try with_reducible rfl)
          simp only [Act.put, List.setIfInBounds_toArray, List.set_cons_zero, List.set_cons_succ]
          refine wpAnyH_take (i := 13) (oi := { dst := some 61, op := Op.pick (Operand.tmp 49) (Operand.tmp 60) (Operand.const (Value.bool false)), type := 4, pos := "more.go:50", after := _, guard := none }) (v := ?_) rfl (by kernel_rfl) (by kernel_rfl) (by kernel_rfl) (fun _ _ _ h => h) (Or.inl ⟨by rfl, ?_⟩) (by assumption) ?_
          rotate_left
          · (intro w hSw; (try dsimp only at hSw); go_simp; try with_reducible rfl)
          simp only [Act.put, List.setIfInBounds_toArray, List.set_cons_zero, List.set_cons_succ]
          refine wpAnyH_done (by kernel_rfl) ?_ _
          clear hHeld
          go_wp2
          go_roundw
          case rel => exact ⟨i + 1, bi, addP T ⟨y0, y1, y2⟩ true, u1, by omega, by rfl, by go_num, by omega, by omega, by rw [addP_len, HTN.out], fun _ => by rw [HRS.out, if_neg (by simp; have := HPR.out; omega), HF.out], BB.out, HU1.out, HB.out⟩
          case measure => simp [intOf]; omega
    · have hin : i = N := by omega
      have HIN := hid hin
      have hT0 : 0 < T.length := by rw [HTN.out]; omega
      have HRE := hid (rank_end T hT0)
      have hth : T.getD 0 Wt.zero = l.getD bi Wt.zero := HT.out (by omega)
      have HTH := hid hth
      clear hin hT0 hth
      go_wp2_with (first
        | (refine wpList_load_box rfl 24 _ rfl (v1.heap.size) rfl _ _ BB.out _ Try.underlying24 Try.infoSe ?_)
        | fail)
      refine (put_any 0 1 k (s := u) (l := T) HU.out.sees (by rw [HTN.out]; omega)).mono ?_
      rintro e v4 ⟨u2, q2, rfl, hu, hq, hb⟩
      have BB := hid (BB.out.belowAll hb)
      have HU := hid (HU.out.below hb)
      have HB := hid (HB.out.trans (hb.mono HB.out.size))
      have hsv4 : wr.heap.size ≤ v4.heap.size := by first | exact hb.size | omega
      rw [HRE.out.1, HRE.out.2.1]
      rw [HRE.out.2.2, HTH.out] at hq
      have hu2n : u2.n = T.length - 1 := by rw [hu.n]; simp
      rw [HTN.out, HIN.out] at hu2n
      have hq2n : q2.n = 1 := hq.n
      have HQ := hid hq
      obtain ⟨ua, un, uc⟩ := u2
      obtain ⟨qa, qn, qc⟩ := q2
      simp only at hu2n hq2n
      have HU2 := hid hu2n
      subst hq2n
      clear hu hq hu2n HU HT HTH HRE
      simp only [Sl.val]
      clear hb
      have FL3 := hid trivial
      have FL4 := hid trivial
      go_wp2_with (first
        | (have hfl := FL3.out
           refine wpList_new rfl 24 rfl _ Try.zeroSe ?_
           intro v5 b h z
           have DB := hid (show BoxAt v5 v4.heap.size 24 #[.int .i64 0, .int .i64 0, .bool false, .slice none 0 0] from b)
           have BB := hid (BB.out.belowAll h)
           have HQ := hid (HQ.out.below h)
           have HB := hid (HB.out.trans (h.mono HB.out.size))
           have hsv5 : v4.heap.size + 1 ≤ v5.heap.size := by first | exact h.size | omega
           clear b h z hfl FL3)
        | (have hfl := FL4.out
           refine wpList_store_whole rfl 24 _ _ rfl rfl (v4.heap.size) rfl [.int .i64 0, .int .i64 1, .bool k, .slice ua un uc] rfl _ _ DB.out rfl Try.infoSe (by simp [Value.oneCell']) ?_
           intro v6 b g z
           have hsv6 : v5.heap.size ≤ v6.heap.size := by omega
           have HQ := hid (HQ.out.put g DB.out (by decide))
           have DB := hid (show BoxAt v6 (v4.heap.size) 24 #[.int .i64 0, .int .i64 1, .bool k, .slice ua un uc] from b)
           have BB := hid (BB.out.grown g (fun e => by have := Option.some.inj e; omega))
           have HB := hid (HB.out.trans (grown_below g (by omega) (by omega)))
           clear b g z hfl FL4
           refine Hid.out ?_)
        | fail)
      refine hid ?_
      obtain ⟨bb, off, rfl, hbw, hcell⟩ := HLC.out (by omega)
      have c0 := hid (hcell bi hbN 0 (by decide))
      obtain ⟨f, hf⟩ : ∃ f, l.getD bi Wt.zero = f := ⟨_, rfl⟩
      rw [hf] at c0 HQ
      clear hf hcell HLC
      obtain ⟨f0, f1, f2⟩ := f
      obtain ⟨ya, yc, hyv, -, hy2, hyc⟩ := HQ.out.sees.form
      simp only [Sl.val, Value.slice.injEq] at hyv
      obtain ⟨rfl, -, rfl⟩ := hyv
      obtain ⟨xb, xo, rfl, hxb, hxc⟩ := hyc (by simp)
      have e0 := hid (hxc 0 (by simp) 0 (by decide))
      have hun : un + 1 = N := by have := HU2.out; omega
      simp only [Wt.cells, Wk.cells, List.getD_cons_zero, Nat.add_zero, Nat.zero_mul] at c0 e0
      unfold maxLen at hy2
      have hff : (f0 == f0) = true := by simp
      have huu : ((un : Int) == (un : Int)) = true := by simp
      have hsub : (N : Int) - 1 = (un : Int) := by omega
      have hb1 : -9223372036854775808 ≤ (un : Int) := by omega
      have hb2 : (un : Int) ≤ 9223372036854775807 := by omega
      have HBW := hid hbw
      have hsub1 : wrap64 ((N : Int) - 1) = (un : Int) := by rw [hsub]; exact wrap64_id _ hb1 hb2
      have hsub2 : IntKind.i64.wrap ((N : Int) - 1) = (un : Int) := by rw [hsub]; exact wrapi_id _ hb1 hb2
      clear hxc hyc HQ hun hsub hb1 hb2 HU2
      have HBV := hid (Below.refl v6.heap.size v6)
      go_wp2_with fail
      have BB := hid (BoxAt.drew BB.out)
      have DB := hid (BoxAt.drew DB.out)
      have HBV := hid (HBV.out.trans (((Below.refl v6.heap.size v6).drew).mono HBV.out.size))
      have HB := hid (HB.out.drew)
      have hsv7 : v6.heap.size ≤ v6.drew.heap.size := Nat.le_refl _
      refine wp_region_held_drew (S := (fun w' : World => BoxAt w' (v4.heap.size) 24 #[.int .i64 0, .int .i64 1, .bool k, .slice ua un uc] ∧ w'.cell? ⟨bb, off + bi * 3, none⟩ = some (.int .i64 f0) ∧ w'.cell? ⟨xb, xo, none⟩ = some (.int .i64 f0))) (by kernel_rfl) (⟨DB.out, (HB.out.cell (by exact hbw)).trans c0.out, (HBV.out.cell (by exact hxb)).trans e0.out⟩) (fun hHeld => ?_)
      generalize v6.drew = v7 at *
      refine wpAnyH_take (i := 0) (oi := { dst := some 69, op := Op.move (Operand.tmp 12), type := 3, pos := "more.go:55", after := _, guard := none }) (v := ?_) rfl (by kernel_rfl) (by kernel_rfl) (by kernel_rfl) (fun _ _ _ h => h) (Or.inl ⟨by rfl, ?_⟩) (by assumption) ?_
      rotate_left
      · (intro w hSw; (try dsimp only at hSw); go_simp; try with_reducible rfl)
      simp only [Act.put, List.setIfInBounds_toArray, List.set_cons_zero, List.set_cons_succ]
      refine wpAnyH_take (i := 1) (oi := { dst := some 70, op := Op.binOp BinOp.eql 3 (Operand.tmp 69) (Operand.const (Value.int IntKind.i64 0)) 3, type := 4, pos := "more.go:55", after := _, guard := none }) (v := ?_) rfl (by kernel_rfl) (by kernel_rfl) (by kernel_rfl) (fun _ _ _ h => h) (Or.inl ⟨by rfl, ?_⟩) (by assumption) ?_
      rotate_left
      · (intro W hSw; (try dsimp only at hSw); obtain ⟨hs0S, hs1S, hs2S⟩ := hSw; clear hs0S; go_simp; try with_reducible rfl)
      simp only [Act.put, List.setIfInBounds_toArray, List.set_cons_zero, List.set_cons_succ]
      refine wpAnyH_take (i := 2) (oi := { dst := some 71, op := Op.move (Operand.tmp 70), type := 4, pos := "more.go:55", after := _, guard := none }) (v := ?_) rfl (by kernel_rfl) (by kernel_rfl) (by kernel_rfl) (fun _ _ _ h => h) (Or.inl ⟨by rfl, ?_⟩) (by assumption) ?_
      rotate_left
      · (intro w hSw; (try dsimp only at hSw); go_simp; try with_reducible rfl)
      simp only [Act.put, List.setIfInBounds_toArray, List.set_cons_zero, List.set_cons_succ]
      refine wpAnyH_take (i := 3) (oi := { dst := some 72, op := Op.move (Operand.tmp 13), type := 30, pos := "more.go:55", after := _, guard := some (2, true) }) (v := ?_) rfl (by kernel_rfl) (by kernel_rfl) (by kernel_rfl) (fun _ _ _ h => h) (Or.inl ⟨by rfl, ?_⟩) (by assumption) ?_
      rotate_left
      · (intro w hSw; (try dsimp only at hSw); go_simp; try with_reducible rfl)
      simp only [Act.put, List.setIfInBounds_toArray, List.set_cons_zero, List.set_cons_succ]
      refine wpAnyH_take (i := 4) (oi := { dst := some 73, op := Op.call { callee := Callee.builtin Builtin.len, args := #[Operand.tmp 72], argTypes := #[30] }, type := 3, pos := "more.go:55", after := _, guard := some (2, true) }) (v := ?_) rfl (by kernel_rfl) (by kernel_rfl) (by kernel_rfl) (fun _ _ _ h => h) (Or.inl ⟨by rfl, ?_⟩) (by assumption) ?_
      rotate_left
      · (intro w hSw; (try dsimp only at hSw); go_simp; try with_reducible rfl)
      simp only [Act.put, List.setIfInBounds_toArray, List.set_cons_zero, List.set_cons_succ]
      refine wpAnyH_take (i := 5) (oi := { dst := some 74, op := Op.binOp BinOp.eql 3 (Operand.tmp 73) (Operand.const (Value.int IntKind.i64 1)) 3, type := 4, pos := "more.go:55", after := _, guard := some (2, true) }) (v := ?_) rfl (by kernel_rfl) (by kernel_rfl) (by kernel_rfl) (fun _ _ _ h => h) (Or.inl ⟨by rfl, ?_⟩) (by assumption) ?_
      rotate_left
      · (intro W hSw; (try dsimp only at hSw); obtain ⟨hs0S, hs1S, hs2S⟩ := hSw; clear hs0S; go_simp; try with_reducible rfl)
      simp only [Act.put, List.setIfInBounds_toArray, List.set_cons_zero, List.set_cons_succ]
      refine wpAnyH_take (i := 6) (oi := { dst := some 75, op := Op.pick (Operand.tmp 71) (Operand.tmp 74) (Operand.const (Value.bool false)), type := 4, pos := "more.go:55", after := _, guard := none }) (v := ?_) rfl (by kernel_rfl) (by kernel_rfl) (by kernel_rfl) (fun _ _ _ h => h) (Or.inl ⟨by rfl, ?_⟩) (by assumption) ?_
      rotate_left
      · (intro w hSw; (try dsimp only at hSw); go_simp; try with_reducible rfl)
      simp only [Act.put, List.setIfInBounds_toArray, List.set_cons_zero, List.set_cons_succ]
      refine wpAnyH_take (i := 7) (oi := { dst := some 76, op := Op.move (Operand.tmp 75), type := 4, pos := "more.go:55", after := _, guard := none }) (v := ?_) rfl (by kernel_rfl) (by kernel_rfl) (by kernel_rfl) (fun _ _ _ h => h) (Or.inl ⟨by rfl, ?_⟩) (by assumption) ?_
      rotate_left
      · (intro w hSw; (try dsimp only at hSw); go_simp; try with_reducible rfl)
      simp only [Act.put, List.setIfInBounds_toArray, List.set_cons_zero, List.set_cons_succ]
      refine wpAnyH_take (i := 8) (oi := { dst := some 77, op := Op.move (Operand.tmp 13), type := 30, pos := "more.go:55", after := _, guard := some (7, true) }) (v := ?_) rfl (by kernel_rfl) (by kernel_rfl) (by kernel_rfl) (fun _ _ _ h => h) (Or.inl ⟨by rfl, ?_⟩) (by assumption) ?_
      rotate_left
      · (intro w hSw; (try dsimp only at hSw); go_simp; try with_reducible rfl)
      simp only [Act.put, List.setIfInBounds_toArray, List.set_cons_zero, List.set_cons_succ]
      refine wpAnyH_take (i := 9) (oi := { dst := some 78, op := Op.indexAddr 30 (Operand.tmp 77) (Operand.const (Value.int IntKind.i64 0)), type := 0, pos := "more.go:55", after := _, guard := some (7, true) }) (v := ?_) rfl (by kernel_rfl) (by kernel_rfl) (by kernel_rfl) (fun _ _ _ h => h) (Or.inl ⟨by rfl, ?_⟩) (by assumption) ?_
      rotate_left
      · (intro w hSw; (try dsimp only at hSw); go_simp; try with_reducible rfl)
      simp only [Act.put, List.setIfInBounds_toArray, List.set_cons_zero, List.set_cons_succ]
      refine wpAnyH_take (i := 10) (oi := { dst := some 79, op := Op.fieldAddr 42 (Operand.tmp 78) 0, type := 0, pos := "more.go:55", after := _, guard := some (7, true) }) (v := ?_) rfl (by kernel_rfl) (by kernel_rfl) (by kernel_rfl) (fun _ _ _ h => h) (Or.inl ⟨by rfl, ?_⟩) (by assumption) ?_
      rotate_left
      · (intro w hSw; (try dsimp only at hSw); go_simp; try with_reducible rfl)
      simp only [Act.put, List.setIfInBounds_toArray, List.set_cons_zero, List.set_cons_succ]
      refine wpAnyH_take (i := 11) (oi := { dst := some 80, op := Op.load 3 (Operand.tmp 79), type := 3, pos := "more.go:55", after := _, guard := some (7, true) }) (v := ?_) rfl (by kernel_rfl) (by kernel_rfl) (by kernel_rfl) (fun _ _ _ h => h) (Or.inl ⟨by rfl, ?_⟩) (by assumption) ?_
      rotate_left
      · (intro W hSw; (try dsimp only at hSw); obtain ⟨hs0S, hs1S, hs2S⟩ := hSw; have c0_0 : W.cell? ⟨v4.heap.size, 0, none⟩ = some (.int .i64 0) := (BoxAt.cell hs0S 0).trans rfl; have c0_1 : W.cell? ⟨v4.heap.size, 1, none⟩ = some (.int .i64 1) := (BoxAt.cell hs0S 1).trans rfl; have c0_2 : W.cell? ⟨v4.heap.size, 2, none⟩ = some (.bool k) := (BoxAt.cell hs0S 2).trans rfl; have c0_3 : W.cell? ⟨v4.heap.size, 3, none⟩ = some (.slice ua un uc) := (BoxAt.cell hs0S 3).trans rfl; clear hs0S; go_simp; try with_reducible rfl)
      simp only [Act.put, List.setIfInBounds_toArray, List.set_cons_zero, List.set_cons_succ]
      refine wpAnyH_take (i := 12) (oi := { dst := some 81, op := Op.move (Operand.tmp 0), type := 22, pos := "more.go:55", after := _, guard := some (7, true) }) (v := ?_) rfl (by kernel_rfl) (by kernel_rfl) (by kernel_rfl) (fun _ _ _ h => h) (Or.inl ⟨by rfl, ?_⟩) (by assumption) ?_
      rotate_left
      · (intro w hSw; (try dsimp only at hSw); go_simp; try with_reducible rfl)
      simp only [Act.put, List.setIfInBounds_toArray, List.set_cons_zero, List.set_cons_succ]
      refine wpAnyH_take (i := 13) (oi := { dst := some 82, op := Op.move (Operand.tmp 7), type := 3, pos := "more.go:55", after := _, guard := some (7, true) }) (v := ?_) rfl (by kernel_rfl) (by kernel_rfl) (by kernel_rfl) (fun _ _ _ h => h) (Or.inl ⟨by rfl, ?_⟩) (by assumption) ?_
      rotate_left
      · (intro w hSw; (try dsimp only at hSw); go_simp; try with_reducible rfl)
      simp only [Act.put, List.setIfInBounds_toArray, List.set_cons_zero, List.set_cons_succ]
      refine wpAnyH_take (i := 14) (oi := { dst := some 83, op := Op.indexAddr 22 (Operand.tmp 81) (Operand.tmp 82), type := 0, pos := "more.go:55", after := _, guard := some (7, true) }) (v := ?_) rfl (by kernel_rfl) (by kernel_rfl) (by kernel_rfl) (fun _ _ _ h => h) (Or.inl ⟨by rfl, ?_⟩) (by assumption) ?_
      rotate_left
      · (intro w hSw; (try dsimp only at hSw); go_simp; try with_reducible rfl)
      simp only [Act.put, List.setIfInBounds_toArray, List.set_cons_zero, List.set_cons_succ]
      refine wpAnyH_take (i := 15) (oi := { dst := some 84, op := Op.fieldAddr 26 (Operand.tmp 83) 0, type := 0, pos := "more.go:55", after := _, guard := some (7, true) }) (v := ?_) rfl (by kernel_rfl) (by kernel_rfl) (by kernel_rfl) (fun _ _ _ h => h) (Or.inl ⟨by rfl, ?_⟩) (by assumption) ?_
      rotate_left
      · (intro w hSw; (try dsimp only at hSw); go_simp; try with_reducible rfl)
      simp only [Act.put, List.setIfInBounds_toArray, List.set_cons_zero, List.set_cons_succ]
      refine wpAnyH_take (i := 16) (oi := { dst := some 85, op := Op.load 3 (Operand.tmp 84), type := 3, pos := "more.go:55", after := _, guard := some (7, true) }) (v := ?_) rfl (by kernel_rfl) (by kernel_rfl) (by kernel_rfl) (fun _ _ _ h => h) (Or.inl ⟨by rfl, ?_⟩) (by assumption) ?_
      rotate_left
      · (intro W hSw; (try dsimp only at hSw); obtain ⟨hs0S, hs1S, hs2S⟩ := hSw; have c0_0 : W.cell? ⟨v4.heap.size, 0, none⟩ = some (.int .i64 0) := (BoxAt.cell hs0S 0).trans rfl; have c0_1 : W.cell? ⟨v4.heap.size, 1, none⟩ = some (.int .i64 1) := (BoxAt.cell hs0S 1).trans rfl; have c0_2 : W.cell? ⟨v4.heap.size, 2, none⟩ = some (.bool k) := (BoxAt.cell hs0S 2).trans rfl; have c0_3 : W.cell? ⟨v4.heap.size, 3, none⟩ = some (.slice ua un uc) := (BoxAt.cell hs0S 3).trans rfl; clear hs0S; go_simp; try with_reducible rfl)
      simp only [Act.put, List.setIfInBounds_toArray, List.set_cons_zero, List.set_cons_succ]
      refine wpAnyH_take (i := 17) (oi := { dst := some 86, op := Op.binOp BinOp.eql 3 (Operand.tmp 80) (Operand.tmp 85) 3, type := 4, pos := "more.go:55", after := _, guard := some (7, true) }) (v := ?_) rfl (by kernel_rfl) (by kernel_rfl) (by kernel_rfl) (fun _ _ _ h => h) (Or.inl ⟨by rfl, ?_⟩) (by assumption) ?_
      rotate_left
      · (intro W hSw; (try dsimp only at hSw); obtain ⟨hs0S, hs1S, hs2S⟩ := hSw; clear hs0S; go_simp; try with_reducible rfl)
      simp only [Act.put, List.setIfInBounds_toArray, List.set_cons_zero, List.set_cons_succ]
      refine wpAnyH_take (i := 18) (oi := { dst := some 87, op := Op.pick (Operand.tmp 76) (Operand.tmp 86) (Operand.const (Value.bool false)), type := 4, pos := "more.go:55", after := _, guard := none }) (v := ?_) rfl (by kernel_rfl) (by kernel_rfl) (by kernel_rfl) (fun _ _ _ h => h) (Or.inl ⟨by rfl, ?_⟩) (by assumption) ?_
      rotate_left
      · (intro w hSw; (try dsimp only at hSw); go_simp; try with_reducible rfl)
      simp only [Act.put, List.setIfInBounds_toArray, List.set_cons_zero, List.set_cons_succ]
      refine wpAnyH_take (i := 19) (oi := { dst := some 88, op := Op.move (Operand.tmp 87), type := 4, pos := "more.go:55", after := _, guard := none }) (v := ?_) rfl (by kernel_rfl) (by kernel_rfl) (by kernel_rfl) (fun _ _ _ h => h) (Or.inl ⟨by rfl, ?_⟩) (by assumption) ?_
      rotate_left
      · (intro w hSw; (try dsimp only at hSw); go_simp; try with_reducible rfl)
      simp only [Act.put, List.setIfInBounds_toArray, List.set_cons_zero, List.set_cons_succ]
      refine wpAnyH_take (i := 20) (oi := { dst := some 89, op := Op.fieldAddr 24 (Operand.tmp 11) 0, type := 0, pos := "more.go:55", after := _, guard := some (19, true) }) (v := ?_) rfl (by kernel_rfl) (by kernel_rfl) (by kernel_rfl) (fun _ _ _ h => h) (Or.inl ⟨by rfl, ?_⟩) (by assumption) ?_
      rotate_left
      · (intro w hSw; (try dsimp only at hSw); go_simp; try with_reducible rfl)
      simp only [Act.put, List.setIfInBounds_toArray, List.set_cons_zero, List.set_cons_succ]
      refine wpAnyH_take (i := 21) (oi := { dst := some 90, op := Op.load 3 (Operand.tmp 89), type := 3, pos := "more.go:55", after := _, guard := some (19, true) }) (v := ?_) rfl (by kernel_rfl) (by kernel_rfl) (by kernel_rfl) (fun _ _ _ h => h) (Or.inl ⟨by rfl, ?_⟩) (by assumption) ?_
      rotate_left
      · (intro W hSw; (try dsimp only at hSw); obtain ⟨hs0S, hs1S, hs2S⟩ := hSw; have c0_0 : W.cell? ⟨v4.heap.size, 0, none⟩ = some (.int .i64 0) := (BoxAt.cell hs0S 0).trans rfl; have c0_1 : W.cell? ⟨v4.heap.size, 1, none⟩ = some (.int .i64 1) := (BoxAt.cell hs0S 1).trans rfl; have c0_2 : W.cell? ⟨v4.heap.size, 2, none⟩ = some (.bool k) := (BoxAt.cell hs0S 2).trans rfl; have c0_3 : W.cell? ⟨v4.heap.size, 3, none⟩ = some (.slice ua un uc) := (BoxAt.cell hs0S 3).trans rfl; clear hs0S; go_simp; try with_reducible rfl)
      simp only [Act.put, List.setIfInBounds_toArray, List.set_cons_zero, List.set_cons_succ]
      refine wpAnyH_take (i := 22) (oi := { dst := some 91, op := Op.binOp BinOp.eql 3 (Operand.tmp 90) (Operand.const (Value.int IntKind.i64 0)) 3, type := 4, pos := "more.go:55", after := _, guard := some (19, true) }) (v := ?_) rfl (by kernel_rfl) (by kernel_rfl) (by kernel_rfl) (fun _ _ _ h => h) (Or.inl ⟨by rfl, ?_⟩) (by assumption) ?_
      rotate_left
      · (intro W hSw; (try dsimp only at hSw); obtain ⟨hs0S, hs1S, hs2S⟩ := hSw; clear hs0S; go_simp; try with_reducible rfl)
      simp only [Act.put, List.setIfInBounds_toArray, List.set_cons_zero, List.set_cons_succ]
      refine wpAnyH_take (i := 23) (oi := { dst := some 92, op := Op.pick (Operand.tmp 88) (Operand.tmp 91) (Operand.const (Value.bool false)), type := 4, pos := "more.go:55", after := _, guard := none }) (v := ?_) rfl (by kernel_rfl) (by kernel_rfl) (by kernel_rfl) (fun _ _ _ h => h) (Or.inl ⟨by rfl, ?_⟩) (by assumption) ?_
      rotate_left
      · (intro w hSw; (try dsimp only at hSw); go_simp; try with_reducible rfl)
      simp only [Act.put, List.setIfInBounds_toArray, List.set_cons_zero, List.set_cons_succ]
      refine wpAnyH_take (i := 24) (oi := { dst := some 93, op := Op.move (Operand.tmp 92), type := 4, pos := "more.go:55", after := _, guard := none }) (v := ?_) rfl (by kernel_rfl) (by kernel_rfl) (by kernel_rfl) (fun _ _ _ h => h) (Or.inl ⟨by rfl, ?_⟩) (by assumption) ?_
      rotate_left
      · (intro w hSw; (try dsimp only at hSw); go_simp; try with_reducible rfl)
      simp only [Act.put, List.setIfInBounds_toArray, List.set_cons_zero, List.set_cons_succ]
      refine wpAnyH_take (i := 25) (oi := { dst := some 94, op := Op.fieldAddr 24 (Operand.tmp 11) 3, type := 0, pos := "more.go:55", after := _, guard := some (24, true) }) (v := ?_) rfl (by kernel_rfl) (by kernel_rfl) (by kernel_rfl) (fun _ _ _ h => h) (Or.inl ⟨by rfl, ?_⟩) (by assumption) ?_
      rotate_left
      · (intro w hSw; (try dsimp only at hSw); go_simp; try with_reducible rfl)
      simp only [Act.put, List.setIfInBounds_toArray, List.set_cons_zero, List.set_cons_succ]
      refine wpAnyH_take (i := 26) (oi := { dst := some 95, op := Op.load 22 (Operand.tmp 94), type := 22, pos := "more.go:55", after := _, guard := some (24, true) }) (v := ?_) rfl (by kernel_rfl) (by kernel_rfl) (by kernel_rfl) (fun _ _ _ h => h) (Or.inl ⟨by rfl, ?_⟩) (by assumption) ?_
      rotate_left
      · (intro W hSw; (try dsimp only at hSw); obtain ⟨hs0S, hs1S, hs2S⟩ := hSw; have c0_0 : W.cell? ⟨v4.heap.size, 0, none⟩ = some (.int .i64 0) := (BoxAt.cell hs0S 0).trans rfl; have c0_1 : W.cell? ⟨v4.heap.size, 1, none⟩ = some (.int .i64 1) := (BoxAt.cell hs0S 1).trans rfl; have c0_2 : W.cell? ⟨v4.heap.size, 2, none⟩ = some (.bool k) := (BoxAt.cell hs0S 2).trans rfl; have c0_3 : W.cell? ⟨v4.heap.size, 3, none⟩ = some (.slice ua un uc) := (BoxAt.cell hs0S 3).trans rfl; clear hs0S; go_simp; try with_reducible rfl)
      simp only [Act.put, List.setIfInBounds_toArray, List.set_cons_zero, List.set_cons_succ]
      refine wpAnyH_take (i := 27) (oi := { dst := some 96, op := Op.call { callee := Callee.builtin Builtin.len, args := #[Operand.tmp 95], argTypes := #[22] }, type := 3, pos := "more.go:55", after := _, guard := some (24, true) }) (v := ?_) rfl (by kernel_rfl) (by kernel_rfl) (by kernel_rfl) (fun _ _ _ h => h) (Or.inl ⟨by rfl, ?_⟩) (by assumption) ?_
      rotate_left
      · (intro w hSw; (try dsimp only at hSw); go_simp; try with_reducible rfl)
      simp only [Act.put, List.setIfInBounds_toArray, List.set_cons_zero, List.set_cons_succ]
      refine wpAnyH_take (i := 28) (oi := { dst := some 97, op := Op.move (Operand.tmp 0), type := 22, pos := "more.go:55", after := _, guard := some (24, true) }) (v := ?_) rfl (by kernel_rfl) (by kernel_rfl) (by kernel_rfl) (fun _ _ _ h => h) (Or.inl ⟨by rfl, ?_⟩) (by assumption) ?_
      rotate_left
      · (intro w hSw; (try dsimp only at hSw); go_simp; try with_reducible rfl)
      simp only [Act.put, List.setIfInBounds_toArray, List.set_cons_zero, List.set_cons_succ]
      refine wpAnyH_take (i := 29) (oi := { dst := some 98, op := Op.call { callee := Callee.builtin Builtin.len, args := #[Operand.tmp 97], argTypes := #[22] }, type := 3, pos := "more.go:55", after := _, guard := some (24, true) }) (v := ?_) rfl (by kernel_rfl) (by kernel_rfl) (by kernel_rfl) (fun _ _ _ h => h) (Or.inl ⟨by rfl, ?_⟩) (by assumption) ?_
      rotate_left
      · (intro w hSw; (try dsimp only at hSw); go_simp; try with_reducible rfl)
      simp only [Act.put, List.setIfInBounds_toArray, List.set_cons_zero, List.set_cons_succ]
      refine wpAnyH_take (i := 30) (oi := { dst := some 99, op := Op.binOp BinOp.sub 3 (Operand.tmp 98) (Operand.const (Value.int IntKind.i64 1)) 3, type := 3, pos := "more.go:55", after := _, guard := some (24, true) }) (v := ?_) rfl (by kernel_rfl) (by kernel_rfl) (by kernel_rfl) (fun _ _ _ h => h) (Or.inl ⟨by rfl, ?_⟩) (by assumption) ?_
      rotate_left
      · (intro W hSw; (try dsimp only at hSw); obtain ⟨hs0S, hs1S, hs2S⟩ := hSw; clear hs0S; go_simp; try with_reducible rfl)
      simp only [Act.put, List.setIfInBounds_toArray, List.set_cons_zero, List.set_cons_succ]
      refine wpAnyH_take (i := 31) (oi := { dst := some 100, op := Op.binOp BinOp.eql 3 (Operand.tmp 96) (Operand.tmp 99) 3, type := 4, pos := "more.go:55", after := _, guard := some (24, true) }) (v := ?_) rfl (by kernel_rfl) (by kernel_rfl) (by kernel_rfl) (fun _ _ _ h => h) (Or.inl ⟨by rfl, ?_⟩) (by assumption) ?_
      rotate_left
      · (intro W hSw; (try dsimp only at hSw); obtain ⟨hs0S, hs1S, hs2S⟩ := hSw; clear hs0S; go_simp; try with_reducible rfl)
      simp only [Act.put, List.setIfInBounds_toArray, List.set_cons_zero, List.set_cons_succ]
      refine wpAnyH_take (i := 32) (oi := { dst := some 101, op := Op.pick (Operand.tmp 93) (Operand.tmp 100) (Operand.const (Value.bool false)), type := 4, pos := "more.go:55", after := _, guard := none }) (v := ?_) rfl (by kernel_rfl) (by kernel_rfl) (by kernel_rfl) (fun _ _ _ h => h) (Or.inl ⟨by rfl, ?_⟩) (by assumption) ?_
      rotate_left
      · (intro w hSw; (try dsimp only at hSw); go_simp; try with_reducible rfl)
      simp only [Act.put, List.setIfInBounds_toArray, List.set_cons_zero, List.set_cons_succ]
      refine wpAnyH_take (i := 33) (oi := { dst := some 4, op := Op.assign (Operand.tmp 101), type := 4, pos := "more.go:55", after := _, guard := none }) (v := ?_) rfl (by kernel_rfl) (by kernel_rfl) (by kernel_rfl) (fun _ _ _ h => h) (Or.inl ⟨by rfl, ?_⟩) (by assumption) ?_
      rotate_left
      · (intro w hSw; (try dsimp only at hSw); go_simp; try with_reducible rfl)
      simp only [Act.put, List.setIfInBounds_toArray, List.set_cons_zero, List.set_cons_succ]
      refine wpAnyH_done (by kernel_rfl) ?_ _
      clear hHeld
      go_wp2
      go_ret
      exact ⟨rfl, HB.out⟩

end Go.Proofs.Ytjdaneppjgljpaa
