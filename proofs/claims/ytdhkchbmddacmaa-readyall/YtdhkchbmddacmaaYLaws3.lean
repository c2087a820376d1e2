/-
  ReadyFirst: the walk.
-/
import Derived.Test.YtdhkchbmddacmaaYLaws2
namespace Go.Proofs.Ytdhkchbmddacmaa
open Go.RowKit
set_option linter.unusedVariables false

theorem below_drewN9 {B : Nat} {a w : World} (h : Below B a w) (n : Nat) : Below B a (w.drewN n) := ⟨h.os, h.tape, h.output, h.size, h.block⟩

set_option maxRecDepth 100000 in
set_option maxHeartbeats 1600000 in
theorem walk_ReadyFirst (w : World) (v : Value) (l : List Px) (hv : SeesPx w v l) (hf : ∀ r ∈ l, r.fit) :
    Calls Try.prog 4 #[v] w fun e w' => e = .returned (.bool true) ∧ Below w.heap.size w w' := by
  clear hf
  have HV := hid hv
  obtain ⟨al, cl, rfl, hl1, hl2, hlc⟩ := hv.form
  have hl3 : cl ≤ 9223372036854775807 := hl2
  have HC := hid hlc
  clear hv hl2 hlc
  go_enter Try.func4, Try.ntmps4
  go_wp2_with fail
  refine (yawake_any _).mono ?_
  rintro e w1 ⟨rfl, hb1⟩
  have HB1 := hid hb1
  clear hb1
  by_cases h40 : 40 < l.length
  · have h40' : (40 : Int) < l.length := by omega
    go_wp2
    go_ret
    exact ⟨rfl, HB1.out⟩
  have hl : l.length ≤ 900000 := by omega
  have h40' : ¬ (40 : Int) < l.length := by omega
  have HP := hid (fun W (hW : Below w.heap.size w W) => pick_any _ l 2 W (HV.out.below hW) hl)
  clear HV
  go_wp2_with fail
  refine (HP.out _ HB1.out).mono ?_
  rintro e w2 ⟨rfl, hb2⟩
  have HB2 := hid (HB1.out.trans (hb2.mono HB1.out.size))
  clear hb2 HP HB1
  cases ho : orderS l 2 with
  | nil =>
    have hp : pickS l 2 = -1 := by unfold pickS; rw [ho]
    rw [hp]
    have HN := hid (first_none l ho)
    clear ho hp
    have hlb : ((-1 : Int) ≥ (l.length : Int)) = False := by simp; omega
    go_wp2
    go_loopw [5] (fun t wc => ∃ i : Nat, i ≤ l.length ∧ t = .int .i64 i ∧ Below w2.heap.size w2 wc) (fun t _ => l.length - (intOf t).toNat)
    case atStart => exact ⟨0, Nat.zero_le _, rfl, Below.refl _ _⟩
    case round =>
      obtain ⟨i, hi, rfl, hbel⟩ := hrel
      have HBE := hid hbel
      have HB3 := hid (HB2.out.trans (hbel.mono HB2.out.size))
      clear hbel
      by_cases hlt : i < l.length
      · obtain ⟨b, off, rfl, hbw, hc⟩ := HC.out (by omega)
        have hp : PxAt wr b (off + i * 18) (l.getD i Px.zero) := fun j hj => (HB3.out.cell (by exact hbw)).trans (hc i hlt j hj)
        have c0 := hp.st
        have c2 := hp.su
        have hcan := HN.out i hlt
        unfold canAt canP at hcan
        clear hc hp HC HN
        generalize (l.getD i Px.zero).st = st at *
        generalize (l.getD i Px.zero).su = su at *
        have hh : st ≠ 1 ∨ su = true := by
          by_cases h : st = 1
          · right; simpa [h] using hcan
          · exact .inl h
        clear hcan
        by_cases hs : st = 1
        · subst hs
          have hsu : su = true := by simpa using hh
          subst hsu
          clear hh
          go_wp2
          go_quiet (fail)
          go_wp2
          go_roundw
          case rel => exact ⟨i + 1, hlt, by go_num, below_drewN9 HBE.out _⟩
          case measure => simp [intOf]; omega
        · have hsb : (st == 1) = false := by simpa using hs
          clear hh hs
          go_wp2
          go_quiet (fail)
          go_wp2
          go_roundw
          case rel => exact ⟨i + 1, hlt, by go_num, below_drewN9 HBE.out _⟩
          case measure => simp [intOf]; omega
      · clear HC HN HBE
        go_wp2
        go_ret
        exact ⟨rfl, HB3.out⟩
  | cons m T =>
    have hp : pickS l 2 = (m : Int) := by unfold pickS; rw [ho]
    rw [hp]
    have hmm : m ∈ orderS l 2 := by rw [ho]; simp
    have hml := order_lt l 2 m hmm
    have hmc := ((mem_order l 2 m).1 hmm).2
    have HF := hid (first_fact l m T ho)
    clear ho hp hmm
    obtain ⟨b, off, rfl, hbw, hc⟩ := HC.out (by omega)
    have hpm : PxAt w2 b (off + m * 18) (l.getD m Px.zero) := fun j hj => (HB2.out.cell (by exact hbw)).trans (hc m hml j hj)
    have m0 := hpm.st
    have m2 := hpm.su
    have m1 := hpm.pr
    have m8 := hpm.si
    unfold canAt canP at hmc
    have HCC := hid hc
    clear hc HC hpm
    rw [Bool.and_eq_true, decide_eq_true_iff] at hmc
    have hst := hmc.1
    have hsu : (l.getD m Px.zero).su = false := by simpa using hmc.2
    rw [hst] at m0
    rw [hsu] at m2
    clear hmc hst hsu
    generalize (l.getD m Px.zero).pr = mp at *
    generalize (l.getD m Px.zero).si = ms at *
    have hmi : (m : Int) < l.length := by omega
    have hm0 : decide ((m : Int) < 0) = false := by simp
    have hbw2 : b < w2.heap.size := by have := HB2.out.size; omega
    go_wp2
    clear m0 m2
    go_loopw [5] (fun t wc => ∃ i : Nat, i ≤ l.length ∧ t = .int .i64 i ∧ Below w2.heap.size w2 wc) (fun t _ => l.length - (intOf t).toNat)
    case atStart => exact ⟨0, Nat.zero_le _, rfl, Below.refl _ _⟩
    case round =>
      obtain ⟨i, hi, rfl, hbel⟩ := hrel
      have HBE := hid hbel
      have HB3 := hid (HB2.out.trans (hbel.mono HB2.out.size))
      have d1 := (hbel.cell (by exact hbw2)).trans m1
      have d8 := (hbel.cell (by exact hbw2)).trans m8
      clear hbel
      by_cases hlt : i < l.length
      · have hp : PxAt wr b (off + i * 18) (l.getD i Px.zero) := fun j hj => (HB3.out.cell (by exact hbw)).trans (HCC.out i hlt j hj)
        have c0 := hp.st
        have c2 := hp.su
        have c1 := hp.pr
        have c8 := hp.si
        have hcan := HF.out i hlt
        unfold canAt canP at hcan
        clear hp HCC HF m1 m8
        generalize (l.getD i Px.zero).st = st at *
        generalize (l.getD i Px.zero).su = su at *
        generalize (l.getD i Px.zero).pr = ip at *
        generalize (l.getD i Px.zero).si = is at *
        by_cases hs : st = 1
        · subst hs
          cases su
          · have hx := hcan (by simp)
            clear hcan
            have hd : decide (mp < ip) = false := decide_eq_false (by omega)
            by_cases hpe : ip = mp
            · subst hpe
              have hd2 : decide (is < ms) = false := decide_eq_false (by omega)
              clear hx
              go_wp2
              go_quiet (fail)
              go_wp2
              go_roundw
              case rel => exact ⟨i + 1, hlt, by go_num, below_drewN9 HBE.out _⟩
              case measure => simp [intOf]; omega
            · have hpb : (ip == mp) = false := by simpa using hpe
              clear hx hpe
              go_wp2
              go_quiet (fail)
              go_wp2
              go_roundw
              case rel => exact ⟨i + 1, hlt, by go_num, below_drewN9 HBE.out _⟩
              case measure => simp [intOf]; omega
          · clear hcan
            go_wp2
            go_quiet (fail)
            go_wp2
            go_roundw
            case rel => exact ⟨i + 1, hlt, by go_num, below_drewN9 HBE.out _⟩
            case measure => simp [intOf]; omega
        · have hsb : (st == 1) = false := by simpa using hs
          clear hcan hs
          go_wp2
          go_quiet (fail)
          go_wp2
          go_roundw
          case rel => exact ⟨i + 1, hlt, by go_num, below_drewN9 HBE.out _⟩
          case measure => simp [intOf]; omega
      · clear HCC HF HBE m1 m8
        go_wp2
        go_ret
        exact ⟨rfl, HB3.out⟩
end Go.Proofs.Ytdhkchbmddacmaa
