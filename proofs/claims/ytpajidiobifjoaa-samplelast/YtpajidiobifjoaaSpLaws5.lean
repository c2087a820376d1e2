/-
  SampleLast: the walk.
-/
import Derived.Test.YtpajidiobifjoaaSpAwake
import Derived.BigQuiet
namespace Go.Proofs.Ytpajidiobifjoaa
open Go.RowKit
set_option linter.unusedVariables false


set_option maxRecDepth 100000 in
set_option maxHeartbeats 3200000 in
theorem walk_SampleLast (w : World) (v : Value) (l : List Int) (hv : Sees w .i64 v l) (hf : ∀ n ∈ l, (Lit.int .i64 n).wf = true) (p : Int) (wp : (Lit.int .i64 p).wf = true) (r : Int) (wr : (Lit.int .i64 r).wf = true) (la : Int) (wla : (Lit.int .i64 la).wf = true) :
    Calls Try.prog 4 #[v, .int .i64 (p), .int .i64 (r), .int .i64 (la)] w fun e w' => e = .returned (.bool true) ∧ Below w.heap.size w w' := by
  clear hf wp wr wla
  obtain ⟨al, cl, rfl, hl1, hl2, hlc⟩ := hv.form
  unfold maxLen at hl2
  obtain ⟨N, hN⟩ : ∃ n, l.length = n := ⟨_, rfl⟩
  rw [hN] at hl1 hlc ⊢
  have HLC := hid hlc
  clear hv hlc hN
  have HB := hid (Below.refl w.heap.size w)
  go_enter Try.func4, Try.ntmps4
  go_wp2_with fail
  refine (spawake_any _).mono ?_
  rintro e v1 ⟨rfl, hb⟩
  have HB := hid (HB.out.trans (hb.mono HB.out.size))
  have hsv1 : w.heap.size ≤ v1.heap.size := by first | exact hb.size | omega
  clear hb
  by_cases hgd1_0 : (60 : Int) < (N : Int)
  · go_wp2
    go_ret
    exact ⟨rfl, HB.out⟩
  by_cases hgd1_1 : p < 0
  · go_wp2
    go_ret
    exact ⟨rfl, HB.out⟩
  by_cases hgd1_2 : 1099511627776 < p
  · go_wp2
    go_ret
    exact ⟨rfl, HB.out⟩
  by_cases hgd1_3 : r < 0
  · go_wp2
    go_ret
    exact ⟨rfl, HB.out⟩
  by_cases hgd1_4 : 1099511627776 < r
  · go_wp2
    go_ret
    exact ⟨rfl, HB.out⟩
  by_cases hgd1_5 : la < 0
  · go_wp2
    go_ret
    exact ⟨rfl, HB.out⟩
  by_cases hgd1_6 : 1099511627776 < la
  · go_wp2
    go_ret
    exact ⟨rfl, HB.out⟩
  have FL1 := hid trivial
  have FL2 := hid trivial
  go_wp2_with (first
    | (have hfl := FL1.out
       refine wpList_new rfl 23 rfl _ Try.zeroSp ?_
       intro v2 b h z
       have SB := hid (show BoxAt v2 v1.heap.size 23 #[.bool false, .int .i64 0, .int .i64 0] from b)
       have HB := hid (HB.out.trans (h.mono HB.out.size))
       have hsv2 : v1.heap.size + 1 ≤ v2.heap.size := by first | exact h.size | omega
       clear b h z hfl FL1)
    | (have hfl := FL2.out
       refine wpList_store_whole rfl 23 _ _ rfl rfl (v1.heap.size) rfl [.bool false, .int .i64 (0), .int .i64 (0)] rfl _ _ SB.out rfl Try.infoSp (by simp [Value.oneCell']) ?_
       intro v3 b g z
       have hsv3 : v2.heap.size ≤ v3.heap.size := by omega
       have SB := hid (show BoxAt v3 (v1.heap.size) 23 #[.bool false, .int .i64 (0), .int .i64 (0)] from b)
       have HB := hid (HB.out.trans (grown_below g (by omega) (by omega)))
       clear b g z hfl FL2
       refine Hid.out ?_)
    | fail)
  refine hid ?_
  go_wp2_with fail
  go_loopw [11] (fun t wc => ∃ (i : Nat) (K : Bool) (V A : Int), i ≤ N ∧ t = .int .i64 i ∧ (i = 0 → K = false) ∧ (0 < i → K = true ∧ V = l.getD (i - 1) 0 ∧ A = p) ∧ BoxAt wc (v1.heap.size) 23 #[.bool K, .int .i64 (V), .int .i64 (A)] ∧ Below w.heap.size w wc) (fun t _ => N - (intOf t).toNat)
  case atStart => exact ⟨0, false, 0, 0, by omega, rfl, (fun _ => rfl), (fun h => absurd h (by omega)), SB.out, HB.out⟩
  case round =>
    clear SB HB
    obtain ⟨i, K, V, A, hi, rfl, hk0, hk1, hbb, hbel⟩ := hrel
    have SB := hid hbb
    have HB := hid hbel
    have hsr : v1.heap.size + 1 ≤ wr.heap.size := hbb.lt
    have hsw : w.heap.size ≤ wr.heap.size := hbel.size
    have HK0 := hid hk0
    have HK1 := hid hk1
    clear hbb hbel hk0 hk1
    by_cases hlt : i < N
    · obtain ⟨bb, off, rfl, hbw, hcell⟩ := HLC.out (by omega)
      have c0 := hid (hcell i hlt)
      have HM9 := hid (show N - (i + 1) < N - i by omega)
      have hi60 : i ≤ 60 := by omega
      clear hcell HLC HK0 HK1
      obtain ⟨X, hX⟩ : ∃ z, l.getD i 0 = z := ⟨_, rfl⟩
      rw [hX] at c0
      have HX := hid hX
      clear hX
      go_wp2_with fail
      have SB := hid (BoxAt.drew SB.out)
      have HB := hid (HB.out.drew)
      have hsv4 : wr.heap.size ≤ wr.drew.heap.size := Nat.le_refl _
      refine wp_region_held_drew (S := (fun w' : World => w'.cell? ⟨bb, off + i, none⟩ = some (.int .i64 X))) (by kernel_rfl) ((HB.out.cell (by exact hbw)).trans c0.out) (fun hHeld => ?_)
      generalize wr.drew = v4 at *
      refine wpAnyH_take (i := 1) (oi := { dst := some 57, op := Op.move (Operand.tmp 0), type := 30, pos := "law.go:37", after := _, guard := none }) (v := ?_) rfl (by kernel_rfl) (by kernel_rfl) (by kernel_rfl) (fun _ _ _ h => h) (Or.inl ⟨by rfl, ?_⟩) (by assumption) ?_
      rotate_left
      · (intro w hSw; (try dsimp only at hSw); go_simp; try with_reducible rfl)
      simp only [Act.put, List.setIfInBounds_toArray, List.set_cons_zero, List.set_cons_succ]
      refine wpAnyH_take (i := 2) (oi := { dst := some 58, op := Op.move (Operand.tmp 11), type := 3, pos := "law.go:37", after := _, guard := none }) (v := ?_) rfl (by kernel_rfl) (by kernel_rfl) (by kernel_rfl) (fun _ _ _ h => h) (Or.inl ⟨by rfl, ?_⟩) (by assumption) ?_
      rotate_left
      · (intro w hSw; (try dsimp only at hSw); go_simp; try with_reducible rfl)
      simp only [Act.put, List.setIfInBounds_toArray, List.set_cons_zero, List.set_cons_succ]
      refine wpAnyH_take (i := 3) (oi := { dst := some 59, op := Op.indexAddr 30 (Operand.tmp 57) (Operand.tmp 58), type := 0, pos := "law.go:37", after := _, guard := none }) (v := ?_) rfl (by kernel_rfl) (by kernel_rfl) (by kernel_rfl) (fun _ _ _ h => h) (Or.inl ⟨by rfl, ?_⟩) (by assumption) ?_
      rotate_left
      · (intro w hSw; (try dsimp only at hSw); go_simp; try with_reducible rfl)
      simp only [Act.put, List.setIfInBounds_toArray, List.set_cons_zero, List.set_cons_succ]
      refine wpAnyH_take (i := 4) (oi := { dst := some 60, op := Op.load 3 (Operand.tmp 59), type := 3, pos := "law.go:37", after := _, guard := none }) (v := ?_) rfl (by kernel_rfl) (by kernel_rfl) (by kernel_rfl) (fun _ _ _ h => h) (Or.inl ⟨by rfl, ?_⟩) (by assumption) ?_
      rotate_left
      · (intro W hSw; (try dsimp only at hSw); have hs0S := hSw; go_simp; try with_reducible rfl)
      simp only [Act.put, List.setIfInBounds_toArray, List.set_cons_zero, List.set_cons_succ]
      refine wpAnyH_take (i := 5) (oi := { dst := some 61, op := Op.move (Operand.tmp 1), type := 3, pos := "law.go:37", after := _, guard := none }) (v := ?_) rfl (by kernel_rfl) (by kernel_rfl) (by kernel_rfl) (fun _ _ _ h => h) (Or.inl ⟨by rfl, ?_⟩) (by assumption) ?_
      rotate_left
      · (intro w hSw; (try dsimp only at hSw); go_simp; try with_reducible rfl)
      simp only [Act.put, List.setIfInBounds_toArray, List.set_cons_zero, List.set_cons_succ]
      refine wpAnyH_ready (rs := [0]) (by kernel_rfl) (by simp) (AllReadyH.cons (o := { dst := some 56, op := Op.load 23 (Operand.tmp 10), type := 23, pos := "law.go:37", after := _, guard := none }) rfl (fun K1006 hK1006 => ?_) AllReadyH.nil)
      have cG0 : v4.cell? ⟨v1.heap.size, 0, none⟩ = some (.bool K) := (BoxAt.cell SB.out 0).trans rfl
      have cG1 : v4.cell? ⟨v1.heap.size, 1, none⟩ = some (.int .i64 (V)) := (BoxAt.cell SB.out 1).trans rfl
      have cG2 : v4.cell? ⟨v1.heap.size, 2, none⟩ = some (.int .i64 (A)) := (BoxAt.cell SB.out 2).trans rfl
      go_simp
      clear cG0 cG1 cG2
      refine hK1006.out _ _ ((HB.out.cell (by exact hbw)).trans c0.out) (fun hHeld1006 => ?_)
      clear hK1006 K1006
      try simp only [Act.put, List.setIfInBounds_toArray, List.set_cons_zero, List.set_cons_succ]
      refine wpAnyH_ready (rs := [6]) (by kernel_rfl) (by simp) (AllReadyH.cons (o := { dst := some 62, op := Op.call { callee := Callee.value (Operand.func 11), args := #[Operand.tmp 56, Operand.tmp 60, Operand.tmp 61], argTypes := #[23, 3, 3] }, type := 23, pos := "law.go:37", after := _, guard := none }) rfl (fun K1007 hK1007 => ?_) AllReadyH.nil)
      go_simp
      refine (put_any K V A X p _).mono ?_
      rintro e v5 ⟨rfl, hb⟩
      have SB := hid (SB.out.belowAll hb)
      have HB := hid (HB.out.trans (hb.mono HB.out.size))
      have hsv5 : v4.heap.size ≤ v5.heap.size := by first | exact hb.size | omega
      clear hb
      refine hK1007.out _ _ ((HB.out.cell (by exact hbw)).trans c0.out) (fun hHeld1007 => ?_)
      clear hK1007 K1007
      try simp only [Act.put, List.setIfInBounds_toArray, List.set_cons_zero, List.set_cons_succ]
      refine wpAnyH_ready (rs := [7]) (by kernel_rfl) (by simp) (AllReadyH.cons (o := { dst := none, op := Op.store 23 (Operand.tmp 10) (Operand.tmp 62), type := 0, pos := "law.go:37", after := _, guard := none }) rfl (fun K1008 hK1008 => ?_) AllReadyH.nil)
      refine step_store_whole rfl 23 _ _ rfl (v1.heap.size) rfl [.bool true, .int .i64 (X), .int .i64 (p)] rfl _ _ SB.out rfl Try.infoSp (by simp [Value.oneCell']) ?_
      intro v6 b g z
      have hsv6 : v5.heap.size ≤ v6.heap.size := by omega
      have SB := hid (show BoxAt v6 (v1.heap.size) 23 #[.bool true, .int .i64 (X), .int .i64 (p)] from b)
      have HB := hid (HB.out.trans (grown_below g (by omega) (by omega)))
      clear b g z
      refine hK1008.out _ _ ((HB.out.cell (by exact hbw)).trans c0.out) (fun hHeld1008 => ?_)
      clear hK1008 K1008
      try simp only [Act.put]
      refine wpAnyH_done (by kernel_rfl) ?_ _
      clear hHeld hHeld1006 hHeld1007 hHeld1008
      go_wp2
      go_roundw
      case rel => exact ⟨i + 1, true, X, p, by omega, by go_num, (fun h => by omega), (fun _ => ⟨rfl, by rw [show i + 1 - 1 = i from by omega]; exact HX.out.symm, rfl⟩), SB.out, HB.out⟩
      case measure => simp [intOf]; omega
    · have hin : i = N := by omega
      subst hin
      clear hlt
      have hi60 : i ≤ 60 := by omega
      obtain ⟨T, hT⟩ : ∃ z, p + la = z := ⟨_, rfl⟩
      have hblT : 0 ≤ T := by omega
      have hbhT : T ≤ 2199023255552 := by omega
      have hwT1 : wrap64 (p + la) = T := by rw [hT]; exact wrap64_id _ (by omega) (by omega)
      have hwT2 : IntKind.i64.wrap (p + la) = T := by rw [hT]; exact wrapi_id _ (by omega) (by omega)
      by_cases h0 : i = 0
      · obtain rfl := HK0.out h0
        subst h0
        clear HK0 HK1 HLC
        go_wp2_with (first
          | (refine wpList_load_box rfl 23 _ rfl (v1.heap.size) rfl _ _ SB.out _ Try.underlying23 Try.infoSp ?_)
          | fail)
        refine (carry_no V A false 0 0 _).mono ?_
        rintro e v4 ⟨rfl, hb⟩
        have SB := hid (SB.out.belowAll hb)
        have HB := hid (HB.out.trans (hb.mono HB.out.size))
        have hsv4 : wr.heap.size ≤ v4.heap.size := by first | exact hb.size | omega
        clear hb
        have FL3 := hid trivial
        have FL4 := hid trivial
        go_wp2_with (first
          | (have hfl := FL3.out
             refine wpList_new rfl 23 rfl _ Try.zeroSp ?_
             intro v5 b h z
             have TB := hid (show BoxAt v5 v4.heap.size 23 #[.bool false, .int .i64 0, .int .i64 0] from b)
             have SB := hid (SB.out.belowAll h)
             have HB := hid (HB.out.trans (h.mono HB.out.size))
             have hsv5 : v4.heap.size + 1 ≤ v5.heap.size := by first | exact h.size | omega
             clear b h z hfl FL3)
          | (have hfl := FL4.out
             refine wpList_store_whole rfl 23 _ _ rfl rfl (v4.heap.size) rfl [.bool false, .int .i64 (0), .int .i64 (0)] rfl _ _ TB.out rfl Try.infoSp (by simp [Value.oneCell']) ?_
             intro v6 b g z
             have hsv6 : v5.heap.size ≤ v6.heap.size := by omega
             have TB := hid (show BoxAt v6 (v4.heap.size) 23 #[.bool false, .int .i64 (0), .int .i64 (0)] from b)
             have SB := hid (SB.out.grown g (fun e => by have := Option.some.inj e; omega))
             have HB := hid (HB.out.trans (grown_below g (by omega) (by omega)))
             clear b g z hfl FL4)
          | (refine wpList_load_box rfl 23 _ rfl (v4.heap.size) rfl _ _ TB.out _ Try.underlying23 Try.infoSp ?_)
          | fail)
        refine (get_any false 0 0 r T _).mono ?_
        rintro e v7 ⟨rfl, hb⟩
        have SB := hid (SB.out.belowAll hb)
        have TB := hid (TB.out.belowAll hb)
        have HB := hid (HB.out.trans (hb.mono HB.out.size))
        have hsv7 : v6.heap.size ≤ v7.heap.size := by first | exact hb.size | omega
        rw [show getC false 0 r T = 2 from rfl, show getV false 0 = 0 from rfl]
        clear hb
        go_wp2
        go_ret
        exact ⟨rfl, HB.out⟩
      · obtain ⟨rfl, hV, hA⟩ := HK1.out (by omega)
        subst hA
        obtain ⟨bb, off, rfl, hbw, hcell⟩ := HLC.out (by omega)
        obtain ⟨m, rfl⟩ : ∃ m, i = m + 1 := ⟨i - 1, by omega⟩
        rw [show m + 1 - 1 = m from by omega] at hV
        have c0 := hid (hcell m (by omega))
        rw [← hV] at c0
        clear HK0 HK1 HLC hcell hV h0
        obtain ⟨q, hq⟩ : ∃ q, m + 1 = q := ⟨_, rfl⟩
        have hq1 : (q : Int) - 1 = (m : Int) := by omega
        have hq2 : wrap64 ((q : Int) - 1) = (m : Int) := by rw [hq1]; exact wrap64_id _ (by omega) (by omega)
        have hq3 : IntKind.i64.wrap ((q : Int) - 1) = (m : Int) := by rw [hq1]; exact wrapi_id _ (by omega) (by omega)
        have hq4 : ((q : Int) == 0) = false := by
          have : (q : Int) ≠ 0 := by omega
          simpa using this
        have hmq : m < q := by omega
        have hmz : (m : Int) < (q : Int) := by omega
        rw [hq] at hi hl1 ⊢
        have eV : (V == V) = true := by simp
        have hcg : getC true A r T = if r < la then 1 else 0 := by
          unfold getC
          rw [if_pos rfl, wrap64_id _ (by omega) (by omega)]
          by_cases h : r < la
          · rw [if_pos h, if_pos (by omega)]
          · rw [if_neg h, if_neg (by omega)]
        have HCG := hid hcg
        clear hcg hq hq1
        go_wp2_with (first
          | (refine wpList_load_box rfl 23 _ rfl (v1.heap.size) rfl _ _ SB.out _ Try.underlying23 Try.infoSp ?_)
          | fail)
        refine (carry_yes V A false 0 0 _).mono ?_
        rintro e v4 ⟨rfl, hb⟩
        have SB := hid (SB.out.belowAll hb)
        have HB := hid (HB.out.trans (hb.mono HB.out.size))
        have hsv4 : wr.heap.size ≤ v4.heap.size := by first | exact hb.size | omega
        clear hb
        have FL3 := hid trivial
        have FL4 := hid trivial
        go_wp2_with (first
          | (have hfl := FL3.out
             refine wpList_new rfl 23 rfl _ Try.zeroSp ?_
             intro v5 b h z
             have TB := hid (show BoxAt v5 v4.heap.size 23 #[.bool false, .int .i64 0, .int .i64 0] from b)
             have SB := hid (SB.out.belowAll h)
             have HB := hid (HB.out.trans (h.mono HB.out.size))
             have hsv5 : v4.heap.size + 1 ≤ v5.heap.size := by first | exact h.size | omega
             clear b h z hfl FL3)
          | (have hfl := FL4.out
             refine wpList_store_whole rfl 23 _ _ rfl rfl (v4.heap.size) rfl [.bool true, .int .i64 (V), .int .i64 (A)] rfl _ _ TB.out rfl Try.infoSp (by simp [Value.oneCell']) ?_
             intro v6 b g z
             have hsv6 : v5.heap.size ≤ v6.heap.size := by omega
             have TB := hid (show BoxAt v6 (v4.heap.size) 23 #[.bool true, .int .i64 (V), .int .i64 (A)] from b)
             have SB := hid (SB.out.grown g (fun e => by have := Option.some.inj e; omega))
             have HB := hid (HB.out.trans (grown_below g (by omega) (by omega)))
             clear b g z hfl FL4)
          | (refine wpList_load_box rfl 23 _ rfl (v4.heap.size) rfl _ _ TB.out _ Try.underlying23 Try.infoSp ?_)
          | fail)
        refine (get_any true V A r T _).mono ?_
        rintro e v7 ⟨rfl, hb⟩
        have SB := hid (SB.out.belowAll hb)
        have TB := hid (TB.out.belowAll hb)
        have HB := hid (HB.out.trans (hb.mono HB.out.size))
        have hsv7 : v6.heap.size ≤ v7.heap.size := by first | exact hb.size | omega
        rw [HCG.out, show getV true V = V from rfl]
        have d0 := (HB.out.cell (by exact hbw)).trans c0.out
        clear HCG
        clear hb
        by_cases hrl : r < la
        · rw [if_pos hrl]
          go_wp2
          go_ret
          exact ⟨rfl, HB.out⟩
        · rw [if_neg hrl]
          go_wp2
          go_ret
          exact ⟨rfl, HB.out⟩

end Go.Proofs.Ytpajidiobifjoaa
