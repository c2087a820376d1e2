/-
  The law TablesHead returns true, whatever it is given, and nothing that was there is written.
-/
import Derived.Test.YtmokdjkggjmncaaTFew
import Derived.Test.YtmokdjkggjmncaaWMath2
import Derived.BigQuiet
import Derived.WalkSmall
namespace Go.Proofs.Ytmokdjkggjmncaa
open Go.RowKit
set_option linter.unusedVariables false

theorem enc_mem7 (l : List Int) (h : allT l = true) : ∀ c ∈ encAll l, 0 ≤ c ∧ c ≤ 255 := by
  intro c hc
  simp only [encAll, List.mem_flatMap] at hc
  obtain ⟨n, hn, hc⟩ := hc
  have ht : isT n = true := by simp only [allT, List.all_eq_true] at h; exact h n hn
  obtain ⟨i, hi, rfl⟩ := List.mem_iff_getElem.1 hc
  have := enc_bytes n.toNat (isT_nat ht).2 i hi
  simp [List.getD, List.getElem?_eq_getElem hi] at this
  omega

theorem flCh_len (l : List Ch) : (l.flatMap flCh).length = 5 * l.length := by
  induction l with
  | nil => rfl
  | cons x l ih => rw [List.flatMap_cons, List.length_append, ih]; simp [flCh]; omega

/-- Where the numbers of a configuration lie. -/
theorem fl_head (c : Cf) : (flCf c).getD 0 0 = c.fr ∧ (flCf c).getD 1 0 = c.sw ∧ (flCf c).getD 2 0 = (c.li.length : Int) ∧
    ∃ N : Nat, 3 ≤ N ∧ (flCf c).length = N + 1 + 5 * c.ch.length ∧ (flCf c).getD N 0 = (c.ch.length : Int) := by
  refine ⟨by simp [flCf], by simp [flCf], by simp [flCf, cntF], ([c.fr, c.sw] ++ cntF one1 c.li ++ cntF flPt c.pa ++ cntF flWn c.wi).length, ?_, ?_, ?_⟩
  · simp [cntF]
  · unfold flCf
    rw [List.length_append]
    have : (cntF flCh c.ch).length = 1 + 5 * c.ch.length := by unfold cntF; rw [List.length_cons, flCh_len]; omega
    omega
  · unfold flCf
    simp [List.getD, cntF]

set_option maxRecDepth 100000 in
set_option maxHeartbeats 3200000 in
theorem walk_TablesHead (w : World) (x : CfX) (hx : x.fit w) :
    Calls Try.prog 7 #[x.val] w fun e w' => e = .returned (.bool true) ∧ Below w.heap.size w w' := by
  have hnot := Try.hnot
  obtain ⟨⟨fr, sw, ⟨a1, n1, k1⟩, ⟨a2, n2, k2⟩, ⟨a3, n3, k3⟩, ⟨a4, n4, k4⟩⟩, c⟩ := x
  obtain ⟨hS, hf⟩ := hx
  simp only at hS hf
  have HS := hid hS
  have HF := hid hf
  clear hS hf
  unfold CfX.val Cv.val
  go_enter Try.func7, Try.ntmps7
  go_wp2_with fail
  refine (awake_any _).mono ?_
  rintro e w1 ⟨rfl, hb⟩
  have B1 : BoxAt w1 w.heap.size 27 #[.int .i64 fr, .int .i64 sw, .slice a1 n1 k1, .slice a2 n2 k2, .slice a3 n3 k3, .slice a4 n4 k4] := (BoxAt.new w _ _).belowAll hb
  have hB1 : Below w.heap.size w w1 := ((Below.refl _ _).alloc (Nat.le_refl _) _).trans (hb.mono (by simp))
  have c0 := (B1.cell 0).trans rfl
  have c1 := (B1.cell 1).trans rfl
  have c2 := (B1.cell 2).trans rfl
  have c3 := (B1.cell 3).trans rfl
  have c4 := (B1.cell 4).trans rfl
  have c5 := (B1.cell 5).trans rfl
  have HB1 := hid B1
  clear hb B1
  go_wp2_with fail
  refine (few_any ⟨fr, sw, ⟨a1, n1, k1⟩, ⟨a2, n2, k2⟩, ⟨a3, n3, k3⟩, ⟨a4, n4, k4⟩⟩ c _ (HS.out.below hB1)).mono ?_
  rintro e w2 ⟨⟨ok, rfl⟩, hb⟩
  have B2 := HB1.out.belowAll hb
  have hB2 := hB1.trans (hb.mono hB1.size)
  clear hb hB1 HB1 c0 c1 c2 c3 c4 c5
  have c0 := (B2.cell 0).trans rfl
  have c1 := (B2.cell 1).trans rfl
  have c2 := (B2.cell 2).trans rfl
  have c3 := (B2.cell 3).trans rfl
  have c4 := (B2.cell 4).trans rfl
  have c5 := (B2.cell 5).trans rfl
  have HB2 := hid B2
  clear B2
  go_wp2_with fail
  refine (enc_any ⟨fr, sw, ⟨a1, n1, k1⟩, ⟨a2, n2, k2⟩, ⟨a3, n3, k3⟩, ⟨a4, n4, k4⟩⟩ c _ (HS.out.below hB2) HF.out).mono ?_
  rintro e w3 ⟨u, rfl, ho3, hb⟩
  have B3 := HB2.out.belowAll hb
  have hB3 := hB2.trans (hb.mono hB2.size)
  clear hb hB2 HB2 c0 c1 c2 c3 c4 c5
  cases ok
  · clear HS HF ho3 B3
    generalize encE c = y
    go_wp2
    go_ret
    exact ⟨rfl, hB3⟩
  by_cases he : encE c = 0
  case neg =>
    have hne : (encE c != 0) = true := by simpa using he
    clear HS HF ho3 B3 he
    generalize encE c = y at *
    go_wp2
    go_ret
    exact ⟨rfl, hB3⟩
  have hm : mayC c = true := by
    by_cases h : mayC c = true
    · exact h
    · rw [encE, if_neg h] at he; simp at he
  have hT : allT (flCf c) = true := by
    rw [encE, if_pos hm, paE] at he
    by_cases h : allT (flCf c) = true
    · exact h
    · rw [if_neg h] at he; simp at he
  have hEB : encB c = encAll (flCf c) := by rw [encB, if_pos hm, paB, if_pos hT]
  have hlenB : (encAll (flCf c)).length ≤ 1000000 := by
    have := encAll_len (flCf c)
    have := (mayC_few hm).2
    omega
  rw [he]
  rw [hEB] at ho3
  have HV3 := hid (Sees.of_owns ho3)
  obtain ⟨ua, uc, rfl, _, _, _⟩ := (Sees.of_owns ho3).form
  have c5 := (B3.cell 5).trans rfl
  have HB3 := hid B3
  have hg := ga_enc (flCf c) hT
  have HG := hid hg
  have hby := enc_mem7 (flCf c) hT
  clear ho3 B3 he hEB
  go_wp2_with fail
  refine (rgetAll_any _ (encAll (flCf c)) w3 HV3.out hby hlenB).mono ?_
  rintro e w4 ⟨u4, rfl, ho4, hb⟩
  rw [HG.out] at ho4 ⊢
  simp only at ho4 ⊢
  have B4 := HB3.out.belowAll hb
  have hB4 := hB3.trans (hb.mono hB3.size)
  have hsee := Sees.of_owns ho4
  obtain ⟨b4, k4', rfl, hk1, hk2, hcell⟩ := hsee.form
  obtain ⟨f0, f1, f2, N, hN3, hNl, fN⟩ := fl_head c
  have hl2000 := (mayC_few hm).2
  obtain ⟨b, off, rfl, hbw, hcell⟩ := hcell (by omega)
  have e0 := hcell 0 (by omega)
  have e1 := hcell 1 (by omega)
  have e2 := hcell 2 (by omega)
  have eN := hcell N (by omega)
  rw [f0] at e0
  rw [f1] at e1
  rw [f2] at e2
  rw [fN] at eN
  rw [Nat.add_zero] at e0
  have q0 : fr = c.fr := HS.out.fr
  have q1 : sw = c.sw := HS.out.sw
  have q2 : n1 = c.li.length := HS.out.li.n_eq.1
  have q3 : n4 = c.ch.length := by
    obtain ⟨_, _, e4, _, _, _⟩ := HS.out.ch.form
    simp only [Sl.val, Value.slice.injEq] at e4
    exact e4.2.1
  have hch : c.ch.length ≤ 8 := by
    have := hm
    unfold mayC at this
    simp only [Bool.and_eq_true, inB, decide_eq_true_eq] at this
    omega
  rw [← q0] at e0
  rw [← q1] at e1
  rw [← q2] at e2
  rw [← q3] at eN hNl hch
  have c0 := (B4.cell 0).trans rfl
  have c1 := (B4.cell 1).trans rfl
  have c2 := (B4.cell 2).trans rfl
  have c5' := (B4.cell 5).trans rfl
  generalize (flCf c).length = L at *
  have hnn : (L : Int) - 5 * (n4 : Int) - 1 = (N : Int) := by omega
  unfold maxLen at hk2
  clear HS HF HV3 HG hg hby hlenB hT hm hb ho4 hsee hcell f0 f1 f2 fN q0 q1 q2 q3 c5 HB3 B4 hB3 hl2000
  have hd3 : decide ((3 : Int) ≤ (N : Int)) = true := by simp; omega
  have hq0 : (fr == fr) = true := by simp
  have hq1 : (sw == sw) = true := by simp
  have hq2 : ((n1 : Int) == (n1 : Int)) = true := by simp
  have hq4 : ((n4 : Int) == (n4 : Int)) = true := by simp
  go_wp2
  go_quiet (fail)
  go_wp2
  go_ret
  exact ⟨rfl, below_drewN hB4 _⟩
end Go.Proofs.Ytmokdjkggjmncaa
