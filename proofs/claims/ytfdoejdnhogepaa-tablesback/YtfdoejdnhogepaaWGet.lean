/-
  What word.readDigits, word.Get and the document's own Get return, whatever bytes they are given, and that nothing that was there is written.
-/
import Derived.Test.YtfdoejdnhogepaaWPut
import Derived.Defers
import Derived.Recover
namespace Go.Proofs.Ytfdoejdnhogepaa
open Go.RowKit
set_option linter.unusedVariables false

/-- How readDigits ends. -/
def rdEnd (r : Int × Int × Int) : Ending :=
  if r.2.2 = 0 then .returned (.tuple #[.int .i64 r.1, .int .i64 r.2.1]) else .panicked [{ v := .iface 31 (.int .i64 r.2.2), recovered := false }]

set_option maxRecDepth 100000 in
set_option maxHeartbeats 400000 in
theorem readDigits_any (v : Value) (l : List Int) (w : World) (hv : Sees w .u8 v l) (hby : ∀ c ∈ l, 0 ≤ c ∧ c ≤ 255) :
    Calls Try.prog 104 #[v] w fun e w' => e = rdEnd (get l) ∧ w' = w := by
  have hnot := Try.hnot
  obtain ⟨a, cap, rfl, hc1, hc2, hcells⟩ := hv.form
  unfold maxLen at hc2
  have HC := hid hcells
  have HY := hid hby
  clear hcells hv hby
  go_enter Try.func104, Try.ntmps104
  go_wp2
  go_loop [2, 9] (fun t i => ∃ (k : Nat) (m : Int), k ≤ l.length ∧ k ≤ 5 ∧ i = .int .i64 k ∧ t = .int .i64 m ∧ 0 ≤ m ∧ m < 128 ^ k ∧ dec (l.drop k) k m = get l) (fun _ i => l.length - (intOf i).toNat)
  case atStart => exact ⟨0, 0, by omega, by omega, rfl, rfl, by omega, by simp, rfl⟩
  case round =>
    obtain ⟨k, m, hk, hk5, rfl, rfl, hm0, hm1, hdec⟩ := hrel
    have HD := hid hdec
    have HM := hid hm1
    clear hdec hm1
    by_cases hlt : k < l.length
    · obtain ⟨b, off, rfl, hbw, hcell⟩ := HC.out (by omega)
      have hcx := hcell k hlt
      clear hcell HC
      have hx : 0 ≤ l.getD k 0 ∧ l.getD k 0 ≤ 255 := HY.out _ (by simp [List.getD, List.getElem?_eq_getElem hlt])
      have hdrop : l.drop k = l.getD k 0 :: l.drop (k + 1) := by rw [List.drop_eq_getElem_cons hlt]; simp [List.getD, List.getElem?_eq_getElem hlt]
      rw [hdrop] at HD
      generalize l.getD k 0 = x at *
      clear hdrop
      obtain ⟨x1, x2⟩ := hx
      obtain ⟨s, hs, hs2, hs3, hs4, hs5, hs6⟩ := digit_facts k hk5 x m x1 x2 hm0 HM.out
      have HS2 := hid hs2
      have HS4 := hid hs4
      clear hs2 hs4
      by_cases hxl : x < 128
      · have hd := dec_last x (l.drop (k + 1)) k m hxl
        rw [← HS2.out, HD.out] at hd
        have HG := hid hd
        clear hd HD
        by_cases hx0 : x = 0
        · subst hx0
          have hw0 : wrap64 0 = 0 := by simp [wrap64]
          by_cases hkp : 0 < k
          · have HE := hid (show get l = (0, 0, 2) by rw [HG.out, if_pos (.inl ⟨rfl, hkp⟩)])
            clear hs
            go_wp2
            exact ⟨rfl, by rw [HE.out]; rfl, rfl⟩
          · have hk0 : k = 0 := by omega
            subst hk0
            have hm00 : m = 0 := by have := HM.out; simp at this; omega
            subst hm00
            have hs0 : s = 0 := by rw [HS2.out]; rfl
            subst hs0
            have HE := hid (show get l = (0, 1, 0) by rw [HG.out]; rfl)
            clear hs
            simp only [Nat.add_zero] at hcx
            go_wp2_with fail
            refine (isTables_any _ _).mono ?_
            rintro e w' ⟨rfl, rfl⟩
            have ht : isT 0 = true := rfl
            go_wp2
            go_ret2
            exact ⟨by rw [HE.out]; rfl, rfl⟩
        · have hxm : (x % 128 == 0) = false := by rw [beq_eq_false_iff_ne]; omega
          go_wp2_with fail
          refine (isTables_any _ _).mono ?_
          rintro e w' ⟨rfl, rfl⟩
          by_cases ht : isT (m + s) = true
          · have hle : ¬ 1099511627776 < m + s := by simp [isT] at ht; omega
            have HE := hid (show get l = (m + s, (k : Int) + 1, 0) by rw [HG.out, if_neg (by omega)])
            clear hle
            go_wp2
            go_ret2
            exact ⟨by rw [HE.out]; rfl, rfl⟩
          · have ht' : isT (m + s) = false := by simpa using ht
            have hle : 1099511627776 < m + s := by simp [isT] at ht'; omega
            have HE := hid (show get l = (0, 0, 2) by rw [HG.out, if_pos (.inr hle)])
            clear hle
            go_wp2
            exact ⟨rfl, by rw [HE.out]; rfl, rfl⟩
      · have hd := dec_more x (l.drop (k + 1)) k m (by omega)
        rw [← HS2.out, HD.out] at hd
        have HG := hid hd
        clear hd HD
        by_cases hk6 : k + 1 = 6
        · have HE := hid (show get l = (0, 0, 2) by rw [HG.out, if_pos hk6])
          have hkk : k = 5 := by omega
          subst hkk
          go_wp2
          exact ⟨rfl, by rw [HE.out]; rfl, rfl⟩
        · have HE := hid (show dec (l.drop (k + 1)) (k + 1) (m + s) = get l by rw [HG.out, if_neg hk6])
          have hkb : ((k : Int) + 1 == 6) = false := by rw [beq_eq_false_iff_ne]; omega
          go_wp2
          go_round
          case rel => exact ⟨k + 1, m + s, by omega, by omega, by go_num, rfl, by omega, HS4.out, HE.out⟩
          case measure => simp [intOf]; omega
    · have HE := hid (show get l = (0, 0, 3) by have := HD.out; rw [List.drop_of_length_le (by omega)] at this; rw [← this]; rfl)
      go_wp2
      exact ⟨rfl, by rw [HE.out]; rfl, rfl⟩

theorem Try.ta_errno (v : Value) (w : World) : (Instr.typeAssert (.iface 31 v) 20 31 true).run Try.prog w = .ok (.tuple #[v, .bool true]) w := by
  simp [Instr.typeAssert, run_underlying Try.underlying31]
theorem Try.ta_nil (w : World) : (Instr.typeAssert .nilIface 20 31 true).run Try.prog w = .ok (.tuple #[.int .i64 0, .bool false]) w := by
  have h : (zeroValue 31).run Try.prog w = .ok (.int .i64 0) w := by kernel_rfl
  simp [Instr.typeAssert, run_underlying Try.underlying31, h]

theorem get_catch (p q r : Addr) (x y z n : Int) (older : List PanicEntry) (w : World)
    (hc : w.cell? p = some (.int .i64 x)) (hz : w.frozen? p = false)
    (hc2 : (w.setCell p (.int .i64 0)).cell? q = some (.int .i64 y)) (hz2 : (w.setCell p (.int .i64 0)).frozen? q = false)
    (hc3 : ((w.setCell p (.int .i64 0)).setCell q (.int .i64 0)).cell? r = some (.int .i64 z)) (hz3 : ((w.setCell p (.int .i64 0)).setCell q (.int .i64 0)).frozen? r = false) :
    CallsD Try.prog 103 #[.pointer (some p), .pointer (some q), .pointer (some r)] (.panicking ({ v := .iface 31 (.int .i64 n), recovered := false } :: older)) w fun e u' w' =>
      e = .returned (.tuple #[]) ∧ u' = .panicking ({ v := .iface 31 (.int .i64 n), recovered := true } :: older) ∧ w' = ((w.setCell p (.int .i64 0)).setCell q (.int .i64 0)).setCell r (.int .i64 n) := by
  refine callsD_of_wpS Try.func103 rfl fun c₀ cs hu => ?_
  apply wpS_seq
  apply wpS_region
  simp [wpOpsS, go_sem, recoverD, hu, Try.ntmps103, Exit.thenS, Try.ta_errno]
  apply wpS_seq
  apply wpS_region
  simp [wpOpsS, go_sem, Exit.thenS]
  refine wpS_cond (t := true) (by simp [Act.eval, Array.replicate]) ?_
  simp only [if_true]
  apply wpS_region
  simp [wpOpsS, go_sem, hc, hz, hc2, hz2, hc3, hz3, bodyPostS, results, Try.results103, Array.replicate]

theorem get_idle (p q r : Addr) (w : World) :
    CallsD Try.prog 103 #[.pointer (some p), .pointer (some q), .pointer (some r)] .returning w fun e u' w' => e = .returned (.tuple #[]) ∧ u' = .returning ∧ w' = w := by
  refine callsD_of_wpS Try.func103 rfl fun c₀ cs hu => ?_
  apply wpS_seq
  apply wpS_region
  simp [wpOpsS, go_sem, recoverD, hu, Try.ntmps103, Exit.thenS, Try.ta_nil]
  apply wpS_seq
  apply wpS_region
  simp [wpOpsS, go_sem, Exit.thenS]
  refine wpS_cond (t := false) (by simp [Act.eval, Array.replicate]) ?_
  simp only [Bool.false_eq_true, if_false]
  refine wpS_of_wp (wp_skip ?_)
  cases c₀
  simp_all [bodyPostS, results, Try.results103]

set_option maxRecDepth 100000 in
set_option maxHeartbeats 400000 in
theorem get_any (v : Value) (l : List Int) (w : World) (hv : Sees w .u8 v l) (hby : ∀ c ∈ l, 0 ≤ c ∧ c ≤ 255) :
    Calls Try.prog 87 #[v] w fun e w' => e = .returned (.tuple #[.int .i64 (get l).1, .int .i64 (get l).2.1, .int .i64 (get l).2.2]) ∧ Below w.heap.size w w' := by
  have hmf : ∀ (fn : Fn) (first cap : Array Value) (w : World), (Instr.makeFunc fn first cap).run Try.prog w = .ok (.func fn first cap) w := fun _ _ _ _ => rfl
  obtain ⟨a, cap, rfl, hc1, hc2, hcells⟩ := hv.form
  have HV := hid hv
  clear hcells hv
  have hpost : Below w.heap.size w (((w.alloc (.cells #[.int .i64 0] 3)).alloc (.cells #[.int .i64 0] 3)).alloc (.cells #[.int .i64 0] 31)) :=
    (((Below.refl _ _).alloc (Nat.le_refl _) _).alloc (by simp) _).alloc (by simp; omega) _
  obtain ⟨x, y, z, hg⟩ : ∃ x y z, get l = (x, y, z) := ⟨_, _, _, rfl⟩
  have hzz := get_zero l
  rw [hg] at hzz ⊢
  have HG := hid hg
  clear hg
  dsimp only at hzz ⊢
  by_cases he : z = 0
  · subst he
    clear hzz
    go_enter_defers Try.func87, Try.ntmps87
    go_wp2_with fail
    refine (readDigits_any _ _ _ (HV.out.below hpost) hby).mono ?_
    rintro e w' ⟨rfl, rfl⟩
    rw [HG.out, show rdEnd (x, y, 0) = .returned (.tuple #[.int .i64 x, .int .i64 y]) from rfl]
    clear HG HV hby
    go_wp2
    go_region
    all_goals (try go_wp2)
    all_goals
      refine leaves_cons (f := 103) (args := #[.pointer (some ⟨w.heap.size, 0, none⟩), .pointer (some ⟨w.heap.size + 1, 0, none⟩), .pointer (some ⟨w.heap.size + 1 + 1, 0, none⟩)]) (by simp) (by simp [go_sem]) ?_
      refine (get_idle _ _ _ _).mono ?_
      rintro e u' w'' ⟨rfl, rfl, rfl⟩
      simp [Leaves, settle, results, Try.results87, go_sem]
      repeat (first | exact Below.refl _ _ | refine Below.drew ?_ | refine Below.setCell ?_ (by simp; try omega) _ | refine Below.alloc ?_ (by simp; try omega) _)
  · obtain ⟨rfl, rfl⟩ := hzz he
    have HE := hid (show rdEnd (0, 0, z) = .panicked [{ v := .iface 31 (.int .i64 z), recovered := false }] by simp [rdEnd, he])
    clear hzz
    go_enter_defers Try.func87, Try.ntmps87
    go_wp2_with fail
    refine (readDigits_any _ _ _ (HV.out.below hpost) hby).mono ?_
    rintro e w' ⟨rfl, rfl⟩
    rw [HG.out, HE.out]
    clear HE HV he hby HG
    go_wp2
    refine leaves_cons (f := 103) (args := #[.pointer (some ⟨w.heap.size, 0, none⟩), .pointer (some ⟨w.heap.size + 1, 0, none⟩), .pointer (some ⟨w.heap.size + 1 + 1, 0, none⟩)]) (by simp) (by simp [go_sem]) ?_
    refine (get_catch ⟨w.heap.size, 0, none⟩ ⟨w.heap.size + 1, 0, none⟩ ⟨w.heap.size + 1 + 1, 0, none⟩ 0 0 0 z [] _ ?_ ?_ ?_ ?_ ?_ ?_).mono ?_
    · simp [go_sem]
    · simp [go_sem]
    · simp [go_sem]
    · simp [go_sem]
    · simp [go_sem]
    · simp [go_sem]
    rintro e u' w'' ⟨rfl, rfl, rfl⟩
    simp [Leaves, settle, results, Try.results87, go_sem]
    repeat (first | exact Below.refl _ _ | refine Below.drew ?_ | refine Below.setCell ?_ (by simp; try omega) _ | refine Below.alloc ?_ (by simp; try omega) _)

set_option maxRecDepth 100000 in
set_option maxHeartbeats 400000 in
theorem rget_any (v : Value) (l : List Int) (w : World) (hv : Sees w .u8 v l) (hby : ∀ c ∈ l, 0 ≤ c ∧ c ≤ 255) :
    Calls Try.prog 55 #[v] w fun e w' => e = .returned (.tuple #[.int .i64 (get l).1, .int .i64 (get l).2.1, .int .i64 (get l).2.2]) ∧ w' = w := by
  have hnot := Try.hnot
  obtain ⟨a, cap, rfl, hc1, hc2, hcells⟩ := hv.form
  unfold maxLen at hc2
  have HC := hid hcells
  have HY := hid hby
  clear hcells hv hby
  obtain ⟨g, hg⟩ : ∃ g, get l = g := ⟨_, rfl⟩
  rw [hg]
  have HGL := hid hg
  clear hg
  go_enter Try.func55, Try.ntmps55
  go_wp2
  go_loop [5, 6, 7] (fun t p i => ∃ (k : Nat) (m q : Int), k ≤ 6 ∧ i = .int .i64 k ∧ t = .int .i64 m ∧ p = .int .i64 q ∧ q = 128 ^ k ∧ 0 ≤ m ∧ m < 128 ^ k ∧ (if k = 6 then (0, 0, 2) else dec (l.drop k) k m) = g) (fun _ _ i => 6 - (intOf i).toNat)
  case atStart => exact ⟨0, 0, 1, by omega, rfl, rfl, rfl, rfl, by omega, by simp, HGL.out⟩
  case round =>
    obtain ⟨k, m, q, hk, rfl, rfl, rfl, hq, hm0, hm1, hdec⟩ := hrel
    by_cases hk6 : k = 6
    · rw [if_pos hk6] at hdec
      subst hdec
      subst hk6
      clear hq hm1
      go_wp2
      go_ret3
      exact ⟨rfl, rfl⟩
    · rw [if_neg hk6] at hdec
      have hk5 : k ≤ 5 := by omega
      have HD := hid hdec
      have HM := hid hm1
      have HQ := hid hq
      clear hdec hm1 hq
      by_cases hlt : k < l.length
      · obtain ⟨b, off, rfl, hbw, hcell⟩ := HC.out (by omega)
        have hcx := hcell k hlt
        clear hcell HC
        have hx : 0 ≤ l.getD k 0 ∧ l.getD k 0 ≤ 255 := HY.out _ (by simp [List.getD, List.getElem?_eq_getElem hlt])
        have hdrop : l.drop k = l.getD k 0 :: l.drop (k + 1) := by rw [List.drop_eq_getElem_cons hlt]; simp [List.getD, List.getElem?_eq_getElem hlt]
        rw [hdrop] at HD
        generalize l.getD k 0 = x at *
        clear hdrop
        obtain ⟨x1, x2⟩ := hx
        obtain ⟨s, hs, hs2, hs3, hs4, hs5, hs6, hq1, hq2, hq3⟩ := digit_facts2 k hk5 x m q HQ.out hm0 HM.out
        have HS2 := hid hs2
        have HS4 := hid hs4
        have HQ3 := hid hq3
        clear hs2 hs4 hq3
        by_cases hxl : x < 128
        · have hd := dec_last x (l.drop (k + 1)) k m hxl
          rw [← HS2.out, HD.out] at hd
          have HG := hid hd
          clear hd HD
          go_wp2_with fail
          refine (wmay_any _ _).mono ?_
          rintro e w' ⟨rfl, rfl⟩
          by_cases ht : isT (m + s) = true
          · have hle : ¬ 1099511627776 < m + s := by simp [isT] at ht; omega
            by_cases hx0 : x = 0
            · subst hx0
              by_cases hkp : 0 < k
              · have HE := hid (show g = (0, 0, 2) by rw [HG.out, if_pos (.inl ⟨rfl, hkp⟩)])
                clear hle HG
                go_wp2
                go_ret3
                exact ⟨by rw [HE.out]; rfl, rfl⟩
              · have HE := hid (show g = (m + s, (k : Int) + 1, 0) by rw [HG.out, if_neg (by omega)])
                clear hle HG
                go_wp2
                go_ret3
                exact ⟨by rw [HE.out]; rfl, rfl⟩
            · have HE := hid (show g = (m + s, (k : Int) + 1, 0) by rw [HG.out, if_neg (by omega)])
              have hxb : (x == 0) = false := by rw [beq_eq_false_iff_ne]; omega
              clear hle HG
              go_wp2
              go_ret3
              exact ⟨by rw [HE.out]; rfl, rfl⟩
          · have ht' : isT (m + s) = false := by simpa using ht
            have hle : 1099511627776 < m + s := by simp [isT] at ht'; omega
            have HE := hid (show g = (0, 0, 2) by rw [HG.out, if_pos (.inr hle)])
            clear hle HG
            by_cases hx0 : x = 0
            · subst hx0
              by_cases hkp : 0 < k
              · go_wp2
                go_ret3
                exact ⟨by rw [HE.out]; rfl, rfl⟩
              · go_wp2
                go_ret3
                exact ⟨by rw [HE.out]; rfl, rfl⟩
            · have hxb : (x == 0) = false := by rw [beq_eq_false_iff_ne]; omega
              go_wp2
              go_ret3
              exact ⟨by rw [HE.out]; rfl, rfl⟩
        · have hd := dec_more x (l.drop (k + 1)) k m (by omega)
          rw [← HS2.out, HD.out] at hd
          have HG := hid hd
          clear hd HD
          have HE := hid (show (if k + 1 = 6 then (0, 0, 2) else dec (l.drop (k + 1)) (k + 1) (m + s)) = g by rw [HG.out])
          clear HG
          go_wp2
          go_round
          case rel => exact ⟨k + 1, m + s, q * 128, by omega, by go_num, rfl, rfl, HQ3.out, by omega, HS4.out, HE.out⟩
          case measure => simp [intOf]; omega
      · have HE := hid (show g = (0, 0, 3) by have := HD.out; rw [List.drop_of_length_le (by omega)] at this; rw [← this]; rfl)
        clear HD
        go_wp2
        go_ret3
        exact ⟨by rw [HE.out]; rfl, rfl⟩
end Go.Proofs.Ytfdoejdnhogepaa
