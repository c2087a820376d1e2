/-
  ReadyRaise: the walk.
-/
import Derived.Test.YtdhkchbmddacmaaYLaws1
import Derived.Test.YtdhkchbmddacmaaPOwn
namespace Go.Proofs.Ytdhkchbmddacmaa
open Go.RowKit
set_option linter.unusedVariables false

def Px.raised (r : Px) : Px := ⟨r.st, 1001, r.su, r.pc, r.r0, r.r1, r.r2, r.r3, r.si, r.un, r.ki, r.ob, r.du, r.ne, r.pe, r.co, r.va, r.ca⟩
theorem raised_cells (r : Px) : r.raised.cells = r.cells.set 1 (.int .i64 1001) := rfl
theorem getD_set_same (l : List Px) (i : Nat) (r : Px) (hi : i < l.length) : (l.set i r).getD i Px.zero = r := by simp [List.getD, hi]
theorem getD_set_other (l : List Px) (i j : Nat) (r : Px) (h : i ≠ j) : (l.set i r).getD j Px.zero = l.getD j Px.zero := by simp [List.getD, h]

theorem raise_pick (l : List Px) (i : Nat) (hi : i < l.length) (hc : canAt l i = true) (hp : ∀ j, j < l.length → (l.getD j Px.zero).pr ≤ 1000) : pickS (l.set i (l.getD i Px.zero).raised) 2 = (i : Int) := by
  obtain ⟨L, hL⟩ : ∃ L, L = l.set i (l.getD i Px.zero).raised := ⟨_, rfl⟩
  rw [← hL]
  have hLi : L.getD i Px.zero = (l.getD i Px.zero).raised := by rw [hL]; exact getD_set_same l i _ hi
  have hlen : L.length = l.length := by rw [hL]; simp
  have hcL : canAt L i = true := by unfold canAt at hc ⊢; rw [hLi]; exact hc
  have hm : i ∈ orderS L 2 := (mem_order L 2 i).2 ⟨by unfold modeN; rw [if_neg (by decide), if_pos rfl, hlen]; exact hi, hcL⟩
  have hs := order_sorted L 2
  unfold pickS
  cases e : orderS L 2 with
  | nil => rw [e] at hm; cases hm
  | cons m t =>
    rw [e] at hm hs
    rcases List.mem_cons.1 hm with rfl | hmt
    · rfl
    · exfalso
      rw [List.pairwise_cons] at hs
      have ha := (ahead_iff L m i).1 (hs.1 i hmt)
      have hml : m < l.length := by rw [← hlen]; exact order_lt L 2 m (by rw [e]; simp)
      rw [hLi] at ha
      by_cases hmi : i = m
      · subst hmi
        have := hs.1 i hmt
        rw [ahead_irrefl] at this
        cases this
      · rw [show L.getD m Px.zero = l.getD m Px.zero by rw [hL]; exact getD_set_other l i m _ hmi] at ha
        have := hp m hml
        simp only [Px.raised] at ha
        omega

set_option maxRecDepth 100000 in
set_option maxHeartbeats 1600000 in
theorem walk_ReadyRaise (w : World) (v : Value) (l : List Px) (hv : SeesPx w v l) (hf : ∀ r ∈ l, r.fit) (q : Int) (hq : (Lit.int .i64 q).wf = true) :
    Calls Try.prog 8 #[v, .int .i64 q] w fun e w' => e = .returned (.bool true) ∧ Below w.heap.size w w' := by
  clear hf hq
  have HV := hid hv
  obtain ⟨al, cl, rfl, hl1, hl2, hlc⟩ := hv.form
  have hl3 : cl ≤ 9223372036854775807 := hl2
  have HC := hid hlc
  clear hv hl2 hlc
  go_enter Try.func8, Try.ntmps8
  go_wp2_with fail
  refine (yawake_any _).mono ?_
  rintro e w1 ⟨rfl, hb1⟩
  have HB1 := hid hb1
  clear hb1
  by_cases h40 : 40 < l.length
  · have h40' : (40 : Int) < l.length := by omega
    go_wp2
    go_ret
    exact ⟨rfl, HB1.out⟩
  have hl : l.length ≤ 900000 := by omega
  have h40' : ¬ (40 : Int) < l.length := by omega
  by_cases hq0 : q < 0
  · go_wp2
    go_ret
    exact ⟨rfl, HB1.out⟩
  obtain ⟨i, rfl⟩ := Int.eq_ofNat_of_zero_le (by omega : 0 ≤ q)
  clear hq0
  by_cases hi : l.length ≤ i
  · have hi' : (l.length : Int) ≤ (i : Int) := by omega
    have hi0 : ¬ ((i : Int) < 0) := by omega
    go_wp2
    go_ret
    exact ⟨rfl, HB1.out⟩
  have hil : i < l.length := by omega
  have hi' : ¬ (l.length : Int) ≤ (i : Int) := by omega
  have hi0 : ¬ ((i : Int) < 0) := by omega
  clear hi
  obtain ⟨b, off, rfl, hbw, hc⟩ := HC.out (by omega)
  have hp : PxAt w1 b (off + i * 18) (l.getD i Px.zero) := fun j hj => (HB1.out.cell (by exact hbw)).trans (hc i hil j hj)
  have c0 := hp.st
  have c2 := hp.su
  clear hp hc HC
  by_cases hst : (l.getD i Px.zero).st = 1
  · rw [hst] at c0
    cases hsu : (l.getD i Px.zero).su with
    | true =>
      rw [hsu] at c2
      clear hst hsu
      go_wp2
      go_ret
      exact ⟨rfl, HB1.out⟩
    | false =>
      rw [hsu] at c2
      have hcan : canAt l i = true := by unfold canAt canP; rw [hst, hsu]; rfl
      have HPk := hid (raise_pick l i hil hcan)
      clear hst hsu hcan
      have HS1 := hid (HV.out.below HB1.out)
      have HON := hid (OP.nil w1 w1.heap.size)
      obtain ⟨n, hn⟩ : ∃ n, n = l.length := ⟨_, rfl⟩
      have HN := hid hn
      have HLe := hid (show ([] : List Px).length + l.length ≤ 1000000 by simp; omega)
      go_wp2_with (at_builtin
                   refine app_px rfl _ _ rfl w1.heap.size _ [] rfl HON.out _ l rfl HS1.out HLe.out (Nat.le_refl _) ?_
                   intro v' w2 ho hg hb
                   rw [List.nil_append] at ho
                   have HO2 := hid ho
                   have HB2 := hid (HB1.out.trans (hb.mono HB1.out.size))
                   obtain ⟨g, cap, hv', hg1, hg2, hcap1, hcap2⟩ := ho.form (by omega)
                   subst hv'
                   clear ho hg hb HON HS1)
      have HA := hid (fun j hj => HO2.out.at j hj)
      clear c0 c2
      go_loopw [7] (fun t wc => ∃ k : Nat, k ≤ l.length ∧ t = .int .i64 k ∧ (∀ j, j < k → (l.getD j Px.zero).pr ≤ 1000) ∧ wc = w2) (fun t _ => l.length - (intOf t).toNat)
      case atStart => exact ⟨0, Nat.zero_le _, rfl, fun j hj => absurd hj (Nat.not_lt_zero _), by first | rfl | trivial⟩
      case round =>
        obtain ⟨k, hk, rfl, hall, rfl⟩ := hrel
        have HAll := hid hall
        clear hall
        by_cases hlt : k < l.length
        · have d1 := (HA.out k hlt).pr
          have HX := hid (show (l.getD k Px.zero).pr ≤ 1000 → ∀ j, j < k + 1 → (l.getD j Px.zero).pr ≤ 1000 from fun h j hj => by
            by_cases e : j = k
            · rw [e]; exact h
            · exact HAll.out j (by omega))
          generalize (l.getD k Px.zero).pr = kp at *
          by_cases hk1 : 1000 < kp
          · go_wp2
            go_ret
            exact ⟨rfl, HB2.out⟩
          · have HE := hid (HX.out (by omega))
            clear HX
            go_wp2
            go_roundw
            case rel => exact ⟨k + 1, hlt, by go_num, HE.out, by first | rfl | trivial⟩
            case measure => simp [intOf]; omega
        · have hke : k = l.length := by omega
          subst hke
          have HP2 := hid (HPk.out HAll.out)
          have hA := (HA.out i hil).pr
          have hF := HO2.out.free (i * 18 + 1)
          have HO3 := hid (HO2.out.set i 1 hil (by decide) (l.getD i Px.zero).raised (.int .i64 1001) (raised_cells _))
          have HBS := hid (HB2.out.trans ((Below.refl w.heap.size wr).setCell (show w.heap.size ≤ (⟨g, i * 18 + 1, none⟩ : Addr).block from by have := HB1.out.size; show w.heap.size ≤ g; omega) (.int .i64 1001)))
          have HPi := hid (pick_any _ _ 2 _ HO3.out.sees (by rw [List.length_set]; exact hl))
          rw [HP2.out] at HPi
          clear HO3 HO2 HA HAll HPk HP2 HV
          go_wp2_with fail
          refine HPi.out.mono ?_
          rintro e w4 ⟨rfl, hb4⟩
          have HB4 := hid (HBS.out.trans (hb4.mono HBS.out.size))
          clear hb4 HPi HBS
          go_wp2
          go_ret
          exact ⟨rfl, HB4.out⟩
  · have hsb : ((l.getD i Px.zero).st != 1) = true := by simpa using hst
    generalize (l.getD i Px.zero).st = st at *
    clear hst
    go_wp2
    go_ret
    exact ⟨rfl, HB1.out⟩
end Go.Proofs.Ytdhkchbmddacmaa
