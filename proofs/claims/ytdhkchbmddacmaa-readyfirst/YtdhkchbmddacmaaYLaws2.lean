/-
  ReadyModes, ReadyFirst: the walks.
-/
import Derived.Test.YtdhkchbmddacmaaYLaws1
import Derived.BigQuiet
namespace Go.Proofs.Ytdhkchbmddacmaa
open Go.RowKit
set_option linter.unusedVariables false

theorem mem_take_succ (B : List Int) (i : Nat) (hi : i < B.length) : decide ((0 : Int) ∈ B.take (i + 1)) = (decide ((0 : Int) ∈ B.take i) || decide (B.getD i 0 = 0)) := by
  have h : B.take (i + 1) = B.take i ++ [B.getD i 0] := by rw [List.take_succ_eq_append_getElem hi]; simp [List.getD, List.getElem?_eq_getElem hi]
  rw [h, Bool.eq_iff_iff]
  simp only [Bool.or_eq_true, decide_eq_true_iff, List.mem_append, List.mem_singleton]
  constructor
  · rintro (h | h)
    · exact .inl h
    · exact .inr h.symm
  · rintro (h | h)
    · exact .inl h
    · exact .inr h.symm

set_option maxRecDepth 100000 in
set_option maxHeartbeats 1600000 in
theorem walk_ReadyModes (w : World) (v : Value) (l : List Px) (hv : SeesPx w v l) (hf : ∀ r ∈ l, r.fit) (mode : Int) (hm : (Lit.int .i64 mode).wf = true) :
    Calls Try.prog 6 #[v, .int .i64 mode] w fun e w' => e = .returned (.bool true) ∧ Below w.heap.size w w' := by
  clear hm hf
  have HV := hid hv
  obtain ⟨al, cl, rfl, hl1, hl2, _⟩ := hv.form
  clear hv hl2
  go_enter Try.func6, Try.ntmps6
  go_wp2_with fail
  refine (yawake_any _).mono ?_
  rintro e w1 ⟨rfl, hb1⟩
  have HB1 := hid hb1
  clear hb1
  by_cases h40 : 40 < l.length
  · have h40' : (40 : Int) < l.length := by omega
    go_wp2
    go_ret
    exact ⟨rfl, HB1.out⟩
  have hl : l.length ≤ 900000 := by omega
  have h40' : ¬ (40 : Int) < l.length := by omega
  have HOc := hid (fun W (hW : Below w.heap.size w W) => order_any _ l 1 W (HV.out.below hW) hl)
  have HOn := hid (fun W (hW : Below w.heap.size w W) => order_any _ l 2 W (HV.out.below hW) hl)
  have HOi := hid (fun W (hW : Below w.heap.size w W) => order_any _ l 0 W (HV.out.below hW) hl)
  have HP := hid (fun (h1 : mode ≠ 1) (h2 : mode ≠ 2) W (hW : Below w.heap.size w W) => by
    have := pick_any _ l mode W (HV.out.below hW) hl
    rw [modes_pick l mode h1 h2] at this
    exact this)
  have hi0 : orderI l 0 = [] := by unfold orderI; rw [modes_none l 0 (by decide) (by decide)]; rfl
  rw [hi0] at HOi
  obtain ⟨A, hA⟩ : ∃ A, A = orderI l 1 := ⟨_, rfl⟩
  obtain ⟨B, hB⟩ : ∃ B, B = orderI l 2 := ⟨_, rfl⟩
  have hz : (A = [] ∧ decide ((0 : Int) ∈ B) = false) ∨ (A = [0] ∧ decide ((0 : Int) ∈ B) = true) := by
    have hm : ((0 : Int) ∈ B) ↔ (0 ∈ orderS l 2) := by
      rw [hB]; unfold orderI; simp
    rcases modes_cold l with h | h
    · left
      refine ⟨by rw [hA]; unfold orderI; rw [h]; rfl, decide_eq_false fun hh => ?_⟩
      have := (modes_zero l).1 (hm.1 hh)
      rw [h] at this; cases this
    · right
      exact ⟨by rw [hA]; unfold orderI; rw [h]; rfl, decide_eq_true (hm.2 ((modes_zero l).2 h))⟩
  have hBl : B.length ≤ 40 := by rw [hB]; unfold orderI; rw [List.length_map]; have := order_le l 2; omega
  rw [← hA] at HOc
  rw [← hB] at HOn
  have HZ := hid hz
  clear hA hB hz hi0
  go_wp2_with fail
  refine (HOc.out _ HB1.out).mono ?_
  rintro e w2 ⟨u2, rfl, ho2, hb2⟩
  have HO2 := hid ho2.sees
  have HB2 := hid (HB1.out.trans (hb2.mono HB1.out.size))
  clear ho2 hb2 HOc
  go_wp2_with fail
  refine (HOn.out _ HB2.out).mono ?_
  rintro e w3 ⟨u3, rfl, ho3, hb3⟩
  have HO2b := hid (HO2.out.below hb3)
  have HO3 := hid ho3.sees
  have HB3 := hid (HB2.out.trans (hb3.mono HB2.out.size))
  clear ho3 hb3 HOn HO2
  obtain ⟨pa, ca, rfl, ha1, ha2, hac⟩ := HO2b.out.form
  obtain ⟨pb, cb, hvb, hb1, hb2, hbc⟩ := HO3.out.form
  unfold maxLen at ha2 hb2
  subst hvb
  have HBC := hid hbc
  clear hbc
  have HAC := hid (show A = [0] → ∃ b off, pa = some ⟨b, off, none⟩ ∧ w3.cell? ⟨b, off, none⟩ = some (.int .i64 0) from by
    rintro rfl
    obtain ⟨b, off, h1, h2, h3⟩ := hac (by decide)
    exact ⟨b, off, h1, h3 0 (by decide)⟩)
  clear hac HO2b
  have HNx := hid (show ∀ (q : Bool) (W : World) (hW : Below w.heap.size w W), True from fun _ _ _ => trivial)
  clear HNx
  obtain ⟨a0, hAe⟩ : ∃ a0 : Bool, ((A = [] ∧ a0 = false) ∨ (A = [0] ∧ a0 = true)) ∧ decide ((0 : Int) ∈ B) = a0 := by
    rcases HZ.out with ⟨h1, h2⟩ | ⟨h1, h2⟩
    · exact ⟨false, .inl ⟨h1, rfl⟩, h2⟩
    · exact ⟨true, .inr ⟨h1, rfl⟩, h2⟩
  have HAe := hid hAe.2
  rcases hAe.1 with ⟨rfl, rfl⟩ | ⟨rfl, rfl⟩
  case' inl =>
    clear HAC HZ hAe
    go_wp2_with fail
  case' inr =>
    obtain ⟨b, off, rfl, c0⟩ := HAC.out rfl
    clear HAC HZ hAe
    go_wp2_with fail
  all_goals
    refine (HOi.out _ HB3.out).mono ?_
    rintro e w4 ⟨u4, rfl, ho4, hb4⟩
    have HB4 := hid (HB3.out.trans (hb4.mono HB3.out.size))
    obtain ⟨pi, ci, rfl, _⟩ := ho4.sees.form
    have HBC4 := hid (fun (h : 0 < B.length) => by
      obtain ⟨b, off, h1, h2, h3⟩ := HBC.out h
      exact (⟨b, off, h1, fun i hi => (hb4.cell (by exact h2)).trans (h3 i hi)⟩ : ∃ b off, pb = some ⟨b, off, none⟩ ∧ ∀ i, i < B.length → w4.cell? ⟨b, off + i, none⟩ = some (.int .i64 (B.getD i 0))))
    clear ho4 hb4 HOi HBC
    go_wp2
    go_loopw [8, 9] (fun s t wc => ∃ (i : Nat) (q : Bool), i ≤ B.length ∧ t = .int .i64 i ∧ s = .bool q ∧ q = decide ((0 : Int) ∈ B.take i) ∧ wc = w4) (fun _ t _ => B.length - (intOf t).toNat)
    case atStart => exact ⟨0, false, Nat.zero_le _, rfl, rfl, rfl, rfl⟩
    case round =>
      obtain ⟨i, q, hi, rfl, rfl, hq, rfl⟩ := hrel
      have HQ := hid hq
      clear hq
      by_cases hlt : i < B.length
      · obtain ⟨b, off, rfl, hc⟩ := HBC4.out (by omega)
        have c1 := hc i hlt
        have HS := hid (mem_take_succ B i hlt)
        rw [← HQ.out] at HS
        clear hc HQ
        generalize B.getD i 0 = x at *
        cases q
        · by_cases hx : x = 0
          · subst hx
            have HE := hid (show true = decide ((0 : Int) ∈ B.take (i + 1)) by rw [HS.out]; simp)
            clear HS
            go_wp2
            go_roundw
            case rel => exact ⟨i + 1, true, hlt, by go_num, rfl, HE.out, by first | rfl | trivial⟩
            case measure => simp [intOf]; omega
          · have hxb : (x == 0) = false := by simpa using hx
            have HE := hid (show false = decide ((0 : Int) ∈ B.take (i + 1)) by rw [HS.out]; simp [hx])
            clear HS
            go_wp2
            go_roundw
            case rel => exact ⟨i + 1, false, hlt, by go_num, rfl, HE.out, by first | rfl | trivial⟩
            case measure => simp [intOf]; omega
        · have HE := hid (show true = decide ((0 : Int) ∈ B.take (i + 1)) by rw [HS.out]; simp)
          clear HS
          go_wp2
          go_roundw
          case rel => exact ⟨i + 1, true, hlt, by go_num, rfl, HE.out, by first | rfl | trivial⟩
          case measure => simp [intOf]; omega
      · have hie : i = B.length := by omega
        subst hie
        have hq2 := HQ.out
        rw [List.take_length, HAe.out] at hq2
        subst hq2
        clear HQ HBC4
        by_cases h1 : mode = 1
        · subst h1
          clear HP
          go_wp2
          go_ret
          exact ⟨rfl, HB4.out⟩
        · by_cases h2 : mode = 2
          · subst h2
            clear HP
            go_wp2
            go_ret
            exact ⟨rfl, HB4.out⟩
          · have h1b : (mode == 1) = false := by simpa using h1
            have h2b : (mode == 2) = false := by simpa using h2
            have HP2 := hid (HP.out h1 h2 _ HB4.out)
            clear HP h1 h2
            go_wp2_with fail
            refine HP2.out.mono ?_
            rintro e w5 ⟨rfl, hb5⟩
            have HB5 := hid (HB4.out.trans (hb5.mono HB4.out.size))
            clear hb5 HP2
            go_wp2
            go_ret
            exact ⟨rfl, HB5.out⟩

theorem first_fact (l : List Px) (m : Nat) (t : List Nat) (h : orderS l 2 = m :: t) (i : Nat) (hi : i < l.length) (hc : canAt l i = true) :
    (l.getD i Px.zero).pr < (l.getD m Px.zero).pr ∨ ((l.getD i Px.zero).pr = (l.getD m Px.zero).pr ∧ (l.getD m Px.zero).si ≤ (l.getD i Px.zero).si) := by
  have hm : i ∈ orderS l 2 := (mem_order l 2 i).2 ⟨by unfold modeN; rw [if_neg (by decide), if_pos rfl]; exact hi, hc⟩
  rw [h] at hm
  rcases List.mem_cons.1 hm with rfl | hm
  · exact .inr ⟨rfl, Int.le_refl _⟩
  · have hs := order_sorted l 2
    rw [h, List.pairwise_cons] at hs
    have := (ahead_iff l m i).1 (hs.1 i hm)
    omega
theorem first_none (l : List Px) (h : orderS l 2 = []) (i : Nat) (hi : i < l.length) : canAt l i = false := by
  cases hc : canAt l i with
  | false => rfl
  | true =>
    have hm : i ∈ orderS l 2 := (mem_order l 2 i).2 ⟨by unfold modeN; rw [if_neg (by decide), if_pos rfl]; exact hi, hc⟩
    rw [h] at hm; cases hm
end Go.Proofs.Ytdhkchbmddacmaa
