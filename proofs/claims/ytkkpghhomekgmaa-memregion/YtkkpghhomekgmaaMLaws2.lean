/-
  MemKeeps and MemRegion return true, whatever memory and regions they are given, and nothing that was there is written.
-/
import Derived.Test.YtkkpghhomekgmaaMLaws1
import Derived.Deep.QuietTactic
namespace Go.Proofs.Ytkkpghhomekgmaa
open Go.RowKit
set_option linter.unusedVariables false

theorem Sees.cellAt {w : World} {k : IntKind} {g off n cap : Nat} {xs : List Int} (h : Sees w k (.slice (some ⟨g, off, none⟩) n cap) xs) (i : Nat) (hi : i < xs.length) : w.cell? ⟨g, off + i, none⟩ = some (.int k (xs.getD i 0)) := by
  rcases h with ⟨hv, _⟩ | ⟨x, cap', hv, _, _, hc⟩
  · simp at hv
  · simp only [Value.slice.injEq, Option.some.injEq] at hv
    obtain ⟨rfl, _, _⟩ := hv
    have := hc i hi
    rw [add_none] at this
    exact this

theorem touch_write {n : Nat} {l : List Rg} {k : Int} (h : touchE n l k true = 0) : touchE n l k false = 0 := by
  unfold touchE at h ⊢
  by_cases h1 : k < 0 ∨ (n : Int) ≤ k
  · rw [if_pos h1] at h; simp at h
  · rw [if_neg h1] at h ⊢
    split at h
    · rename_i h2
      rw [if_pos]
      rw [List.any_eq_true] at h2 ⊢
      obtain ⟨r, hr, hok⟩ := h2
      refine ⟨r, hr, ?_⟩
      simp [okB] at hok ⊢
      exact hok.1
    · simp at h

set_option maxRecDepth 100000 in
set_option maxHeartbeats 400000 in
theorem walk_MemKeeps (w : World) (v0 : Value) (m : List Int) (s0 : Sees w .i64 v0 m) (f0 : ∀ n ∈ m, (Lit.int .i64 n).wf = true) (v1 : Value) (l : List Rg) (s1 : SeesR w v1 l) (f1 : ∀ r ∈ l, r.fit) (k : Int) (hk : (Lit.int .i64 k).wf = true) (x : Int) (hx : (Lit.int .i64 x).wf = true) :
    Calls Try.prog 5 #[v0, v1, .int .i64 k, .int .i64 x] w fun e w' => e = .returned (.bool true) ∧ Below w.heap.size w w' := by
  obtain ⟨am, cm, rfl, hm1, hm2, hmc⟩ := s0.form
  obtain ⟨al, cl, rfl, hl1, hl2, hlc⟩ := s1.form
  unfold maxLen at hm2 hl2
  have HK := hid (bounds_i64 hk)
  have HC := hid hmc
  clear hk hx f0 hlc hmc
  have HF := hid f1
  have H0 := hid s0
  have H1 := hid s1
  clear f1 s0 s1
  go_enter Try.func5, Try.ntmps5
  go_wp2_with fail
  refine (mawake_any _).mono ?_
  rintro e w1 ⟨rfl, hb⟩
  by_cases hlen : 200 < m.length
  · go_wp2
    go_ret
    exact ⟨rfl, hb⟩
  by_cases hlen2 : 20 < l.length
  · go_wp2
    go_ret
    exact ⟨rfl, hb⟩
  go_wp2_with fail
  refine (store_any _ _ m l k x _ (H0.out.below hb) (H1.out.below hb) HF.out HK.out (by omega)).mono ?_
  rintro e w3 ⟨u, rfl, hown, hb2⟩
  replace hb := hb.trans (hb2.mono hb.size)
  clear hb2
  by_cases ht : touchE m.length l k true = 0
  · have hsl : storeL m l k x = m.set k.toNat x := by unfold storeL; rw [if_pos ht]
    obtain ⟨h0, h1⟩ := touchE_zero ht
    have HT := hid (touch_write ht)
    rw [ht]
    rw [hsl, List.length_set] at hown
    obtain ⟨j, rfl⟩ := Int.eq_ofNat_of_zero_le h0
    rw [Int.toNat_natCast] at hown
    have hsee := Sees.of_owns hown
    obtain ⟨g, cap, rfl, hg1, hg2, hg3, hg4⟩ := owns_form hown (by omega)
    unfold maxLen at hg4
    have HS := hid hsee
    clear hown hsee hsl ht
    go_wp2_with fail
    refine (load_any _ _ _ l j _ HS.out (H1.out.below hb) HF.out HK.out).mono ?_
    rintro e w4 ⟨rfl, hb2⟩
    have HS2 := hid (HS.out.below hb2)
    replace hb := hb.trans (hb2.mono hb.size)
    rw [List.length_set, HT.out, show loadV (m.set j x) l j = x by
      unfold loadV; rw [List.length_set, HT.out, if_pos rfl]; simp [List.getD, show j < m.length by omega]]
    clear HS hb2
    go_wp2_with fail
    refine (load_any _ _ _ l j _ (H0.out.below hb) (H1.out.below hb) HF.out HK.out).mono ?_
    rintro e w5 ⟨rfl, hb2⟩
    have HS := hid (HS2.out.below hb2)
    replace hb := hb.trans (hb2.mono hb.size)
    rw [HT.out]
    generalize loadV m l j = y
    clear HS2 hb2
    obtain ⟨b, off, rfl, hbw, hcell⟩ := HC.out (by omega)
    have hcm : ∀ i, i < m.length → w5.cell? ⟨b, off + i, none⟩ = some (.int .i64 (m.getD i 0)) := fun i hi => (hb.cell (by exact hbw)).trans (hcell i hi)
    have hca : ∀ i, i < m.length → i ≠ j → w5.cell? ⟨g, i, none⟩ = some (.int .i64 (m.getD i 0)) := fun i hi hij => by
      have := Sees.cellAt HS.out i (by simpa using hi)
      rw [Nat.zero_add] at this
      rw [this]
      simp [List.getD, Ne.symm hij]
    have HM := hid hcm
    have HA := hid hca
    clear hcm hca hcell HC HS H0 H1 HF HT HK
    go_wp2
    go_loopw [16] (fun t wc => ∃ i : Nat, i ≤ m.length ∧ t = .int .i64 i ∧ ∃ n, wc = w5.drewN n) (fun t _ => m.length - (intOf t).toNat)
    case atStart => exact ⟨0, by omega, rfl, 0, rfl⟩
    case round =>
      obtain ⟨i, hi, rfl, nd, rfl⟩ := hrel
      by_cases hlt : i < m.length
      · by_cases hij : i = j
        · subst hij
          have hne : ((i : Int) != (i : Int)) = false := by simp
          go_wp2
          go_quiet (fail)
          go_wp2
          go_roundw
          case rel => exact ⟨i + 1, by omega, by go_num, _, rfl⟩
          case measure => simp [intOf]; omega
        · have hne : ((i : Int) != (j : Int)) = true := by simp; omega
          have hq1 := HM.out i hlt
          have hq2 := HA.out i hlt hij
          clear HM HA hij
          generalize m.getD i 0 = z at *
          have hz : (z != z) = false := by simp
          go_wp2
          go_quiet (fail)
          go_wp2
          go_roundw
          case rel => exact ⟨i + 1, by omega, by go_num, _, rfl⟩
          case measure => simp [intOf]; omega
      · go_wp2
        go_ret
        exact ⟨rfl, below_drewN hb nd⟩
  · have htb : (touchE m.length l k true != 0) = true := by simp [ht]
    have hsl : storeL m l k x = [] := by unfold storeL; rw [if_neg ht]
    rw [hsl] at hown
    obtain ⟨a, cap, rfl, h1, h2, _⟩ := (Sees.of_owns hown).form
    simp only [List.length_nil]
    unfold maxLen at h2
    generalize touchE m.length l k true = t at *
    clear hown
    go_wp2
    go_ret
    exact ⟨rfl, hb⟩

theorem touch_one (n : Nat) (g : Rg) (k : Int) (q : Bool) (h0 : 0 ≤ k) (h1 : k < n) : touchE n [g] k q = if okB g k q = true then 0 else 6 := by
  unfold touchE; rw [if_neg (by omega)]; simp
theorem may_one {g : Rg} {n : Int} (h : mayB [g] n = true) : 1 ≤ n ∧ n ≤ 64 ∧ 0 ≤ g.f ∧ 1 ≤ g.n ∧ g.n ≤ n - g.f := by
  unfold mayB at h
  rw [decide_eq_true_eq] at h
  obtain ⟨h1, h2, _, h4⟩ := h
  have := (h4 0 (by simp)).1
  simp [fitsB] at this
  exact ⟨h1, h2, this⟩

set_option maxRecDepth 100000 in
set_option maxHeartbeats 400000 in
theorem walk_MemRegion (w : World) (v0 : Value) (m : List Int) (s0 : Sees w .i64 v0 m) (f0 : ∀ n ∈ m, (Lit.int .i64 n).wf = true) (g : Rg) (f1 : g.fit) :
    Calls Try.prog 7 #[v0, g.val] w fun e w' => e = .returned (.bool true) ∧ Below w.heap.size w w' := by
  obtain ⟨am, cm, rfl, hm1, hm2, hmc⟩ := s0.form
  unfold maxLen at hm2
  clear f0 hmc
  obtain ⟨f, n, q⟩ := g
  unfold Rg.val
  simp only
  have HF := hid (show ∀ r ∈ [(⟨f, n, q⟩ : Rg)], r.fit by intro r hr; simp at hr; subst hr; exact f1)
  have HB0 := hid (alloc_below w (.cells #[.int .i64 f, .int .i64 n, .bool q] 35))
  have H0 := hid s0
  clear f1 s0
  go_enter Try.func7, Try.ntmps7
  go_wp2_with fail
  refine (mawake_any _).mono ?_
  rintro e w1 ⟨rfl, hb⟩
  have c0 : w1.cell? ⟨w.heap.size, 0, none⟩ = some (.int .i64 f) := (hb.cell (by simp)).trans (by simp)
  have c1 : w1.cell? ⟨w.heap.size, 1, none⟩ = some (.int .i64 n) := (hb.cell (by simp)).trans (by simp)
  have c2 : w1.cell? ⟨w.heap.size, 2, none⟩ = some (.bool q) := (hb.cell (by simp)).trans (by simp)
  have hz : w.heap.size < w1.heap.size := by have := hb.size; simp at this; omega
  have hbw : Below w.heap.size w w1 := HB0.out.trans (hb.mono (by simp))
  clear hb HB0
  have HR := hid (show SeesR (w1.alloc (.cells #[.int .i64 f, .int .i64 n, .bool q] 35)) (.slice (some ⟨w1.heap.size, 0, none⟩) 1 1) [⟨f, n, q⟩] from SeesR.one w1 ⟨f, n, q⟩)
  have hb1 := alloc_below w1 (.cells #[.int .i64 f, .int .i64 n, .bool q] 35)
  by_cases hlen : 64 < m.length
  · go_wp2
    go_ret
    exact ⟨rfl, hbw.trans (hb1.mono hbw.size)⟩
  go_wp2_with fail
  have hd0 := (hb1.cell (p := ⟨w.heap.size, 0, none⟩) hz).trans c0
  have hd1 := (hb1.cell (p := ⟨w.heap.size, 1, none⟩) hz).trans c1
  have hd2 := (hb1.cell (p := ⟨w.heap.size, 2, none⟩) hz).trans c2
  have hzz : w.heap.size < (w1.alloc (.cells #[.int .i64 f, .int .i64 n, .bool q] 35)).heap.size := by simp; omega
  replace hbw := hbw.trans (hb1.mono hbw.size)
  clear hb1 c0 c1 c2
  generalize hw2 : w1.alloc (.cells #[.int .i64 f, .int .i64 n, .bool q] 35) = w2 at *
  clear hw2
  refine (may_any _ _ _ _ HR.out HF.out).mono ?_
  rintro e w3 ⟨rfl, hb⟩
  by_cases hmay : mayB [⟨f, n, q⟩] m.length = true
  · obtain ⟨g1, g2, g3, g4, g5⟩ := may_one hmay
    simp only at g3 g4 g5
    go_wp2
    go_loopw [7, 8] (fun c t wc => ∃ j : Nat, j ≤ m.length ∧ t = .int .i64 j ∧ c = .int .i64 (max 0 (min (j - f) n)) ∧ Below w2.heap.size w2 wc) (fun _ t _ => m.length - (intOf t).toNat)
    case atStart => exact ⟨0, by omega, rfl, by go_num, hb⟩
    case round =>
      obtain ⟨j, hj, rfl, rfl, hb3⟩ := hrel
      have hbb := hbw.trans (hb3.mono hbw.size)
      by_cases hlt : j < m.length
      · have hjk : (-9223372036854775808 : Int) ≤ (j : Int) ∧ (j : Int) ≤ 9223372036854775807 := by omega
        have HT1 := hid (touch_one m.length ⟨f, n, q⟩ j false (by omega) (by omega))
        have HT2 := hid (touch_one m.length ⟨f, n, q⟩ j true (by omega) (by omega))
        have HJ := hid hjk
        clear hjk
        go_wp2_with fail
        refine (load_any _ _ m _ j _ (H0.out.below hbb) (HR.out.below hb3) HF.out HJ.out).mono ?_
        rintro e w4 ⟨rfl, hb4⟩
        replace hb3 := hb3.trans (hb4.mono hb3.size)
        replace hbb := hbb.trans (hb4.mono hbb.size)
        clear hb4
        go_wp2_with fail
        refine (store_any _ _ m _ j 0 _ (H0.out.below hbb) (HR.out.below hb3) HF.out HJ.out (by omega)).mono ?_
        rintro e w5 ⟨u, rfl, hown, hb4⟩
        replace hb3 := hb3.trans (hb4.mono hb3.size)
        replace hbb := hbb.trans (hb4.mono hbb.size)
        clear hb4 hown
        rw [HT1.out, HT2.out]
        generalize loadV m [⟨f, n, q⟩] j = lv
        have e0 := (hb3.cell (p := ⟨w.heap.size, 0, none⟩) hzz).trans hd0
        have e1 := (hb3.cell (p := ⟨w.heap.size, 1, none⟩) hzz).trans hd1
        have e2 := (hb3.cell (p := ⟨w.heap.size, 2, none⟩) hzz).trans hd2
        clear hd0 hd1 hd2 HT1 HT2 HJ HR H0
        by_cases hin : f ≤ (j : Int) ∧ (j : Int) < f + n
        · have hh : hasB ⟨f, n, q⟩ j = true := by simp [hasB]; omega
          have ho1 : okB ⟨f, n, q⟩ j false = true := by simp [okB, hh]
          have ho2 : okB ⟨f, n, q⟩ j true = q := by simp [okB, hh]
          rw [ho1, ho2, if_pos rfl]
          obtain ⟨i1, i2⟩ := hin
          rcases q with _ | _
          all_goals
            simp only [if_true, Bool.false_eq_true, if_false]
            go_wp2
            go_roundw
            case rel => exact ⟨j + 1, by omega, by go_num, by congr 1; omega, hb3⟩
            case measure => simp [intOf]; omega
        · have hh : hasB ⟨f, n, q⟩ j = false := by simp [hasB]; omega
          have ho1 : okB ⟨f, n, q⟩ j false = false := by simp [okB, hh]
          have ho2 : okB ⟨f, n, q⟩ j true = false := by simp [okB, hh]
          rw [ho1, ho2]
          simp only [Bool.false_eq_true, if_false]
          rcases (show (j : Int) < f ∨ (f ≤ (j : Int) ∧ f + n ≤ (j : Int)) by omega) with hjf | ⟨hjf, hjn⟩
          all_goals
            clear hin
            go_wp2
            go_roundw
            case rel => exact ⟨j + 1, by omega, by go_num, by congr 1; omega, hb3⟩
            case measure => simp [intOf]; omega
      · have e1 := (hb3.cell (p := ⟨w.heap.size, 1, none⟩) hzz).trans hd1
        have hv : max 0 (min ((j : Int) - f) n) = n := by omega
        rw [hv]
        clear hd0 hd1 hd2 HR H0
        go_wp2
        go_ret
        exact ⟨rfl, hbb⟩
  · have hmay' : mayB [⟨f, n, q⟩] m.length = false := by simpa using hmay
    go_wp2
    go_ret
    exact ⟨rfl, hbw.trans (hb.mono hbw.size)⟩
end Go.Proofs.Ytkkpghhomekgmaa
