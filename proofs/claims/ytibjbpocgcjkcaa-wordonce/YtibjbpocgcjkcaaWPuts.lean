/-
  The laws WordPuts, WordSizes and WordJoins return true, whatever they are given, and nothing that was there is written.
-/
import Derived.Test.YtibjbpocgcjkcaaWPutAll
import Derived.Test.YtibjbpocgcjkcaaWAwake
namespace Go.Proofs.Ytibjbpocgcjkcaa
open Go.RowKit
set_option linter.unusedVariables false

theorem Sees.strT {w : World} {v : Value} {xs : List Int} (h : Sees w .u8 v xs) : (convert 27 9 v).run Try.prog w = .ok (.string (strOfNums xs)) w :=
  h.str 27 5 9 Try.underlying27 Try.underlying5 Try.underlying9

set_option maxRecDepth 100000 in
set_option maxHeartbeats 400000 in
theorem walk_WordPuts (w : World) (n : Int) (hn : (Lit.int .i64 n).wf = true) (v : Value) (l : List Int) (hv : Sees w .i64 v l) (hw : ∀ n ∈ l, (Lit.int .i64 n).wf = true) :
    Calls Try.prog 5 #[.int .i64 n, v] w fun e w' => e = .returned (.bool true) ∧ Below w.heap.size w w' := by
  obtain ⟨a, cap, rfl, hc1, hc2, hcells⟩ := hv.form
  have hm := hc2
  unfold maxLen at hm
  clear hcells hw
  have HV := hid (hv)
  clear hv
  go_enter Try.func5, Try.ntmps5
  go_wp2_with fail
  refine (awake_any _).mono ?_
  rintro e w1 ⟨rfl, hb1⟩
  by_cases hl : 500 < l.length
  · go_wp2
    go_ret
    exact ⟨rfl, hb1⟩
  · go_wp2_with fail
    refine (put_any _ _).mono ?_
    rintro e w2 ⟨u2, rfl, ho2, hb2⟩
    go_wp2_with fail
    refine (rput_any _ _).mono ?_
    rintro e w3 ⟨u3, rfl, ho3, hb3⟩
    have hs3 := HV.out.below (hb1.trans ((hb2.mono hb1.size).trans (hb3.mono (Nat.le_trans hb1.size hb2.size))))
    go_wp2_with fail
    refine (putAll_any _ _ _ hs3 (by omega)).mono ?_
    rintro e w4 ⟨u4, rfl, ho4, hb4⟩
    go_wp2_with fail
    refine (rputAll_any _ _ _ (hs3.below hb4) (by omega)).mono ?_
    rintro e w5 ⟨u5, rfl, ho5, hb5⟩
    have c2 := ((((Sees.of_owns ho2).below hb3).below hb4).below hb5).strT
    have c3 := (((Sees.of_owns ho3).below hb4).below hb5).strT
    have c4 := ((Sees.of_owns ho4).below hb5).strT
    have c5 := (Sees.of_owns ho5).strT
    have HB := hid ((((hb1.trans (hb2.mono hb1.size)).trans (hb3.mono (Nat.le_trans hb1.size hb2.size))).trans ((hb4.mono (Nat.le_trans hb1.size (Nat.le_trans hb2.size hb3.size))).trans (hb5.mono (Nat.le_trans hb1.size (Nat.le_trans hb2.size (Nat.le_trans hb3.size hb4.size)))))))
    clear ho2 ho3 ho4 ho5 hs3 hb1 hb2 hb3 hb4 hb5
    generalize putB n = x1 at *
    generalize putE n = x2 at *
    generalize paB l = x3 at *
    generalize paE l = x4 at *
    go_wp2
    go_ret
    exact ⟨rfl, HB.out⟩

theorem len_cast (l : List Int) : (l.length : Int) = ((l.length : Nat) : Int) := rfl

set_option maxRecDepth 100000 in
set_option maxHeartbeats 400000 in
theorem walk_WordJoins (w : World) (va : Value) (a : List Int) (ha : Sees w .i64 va a) (hwa : ∀ n ∈ a, (Lit.int .i64 n).wf = true) (vb : Value) (b : List Int) (hb : Sees w .i64 vb b) (hwb : ∀ n ∈ b, (Lit.int .i64 n).wf = true) :
    Calls Try.prog 10 #[va, vb] w fun e w' => e = .returned (.bool true) ∧ Below w.heap.size w w' := by
  obtain ⟨i0, hi, hz0, hz1, hz2⟩ := info_parts Try.infoInt
  obtain ⟨aa, acap, rfl, hc1, hc2, _⟩ := ha.form
  obtain ⟨ab, bcap, rfl, hd1, hd2, _⟩ := hb.form
  have hm := hc2
  have hm' := hd2
  unfold maxLen at hm hm'
  clear hwa hwb
  have HVA := hid ha
  have HVB := hid hb
  clear ha hb
  go_enter Try.func10, Try.ntmps10
  go_wp2_with fail
  refine (awake_any _).mono ?_
  rintro e w1 ⟨rfl, hb1⟩
  by_cases hl : 200 < a.length
  · go_wp2
    go_ret
    exact ⟨rfl, hb1⟩
  by_cases hl2 : 200 < b.length
  · go_wp2
    go_ret
    exact ⟨rfl, hb1⟩
  go_wp2_with fail
  refine (putAll_any _ _ _ (HVA.out.below hb1) (by omega)).mono ?_
  rintro e w2 ⟨u2, rfl, ho2, hb2⟩
  have hb12 := hb1.trans (hb2.mono hb1.size)
  go_wp2_with fail
  refine (putAll_any _ _ _ (HVB.out.below hb12) (by omega)).mono ?_
  rintro e w3 ⟨u3, rfl, ho3, hb3⟩
  have hb13 := hb12.trans (hb3.mono hb12.size)
  have hsa := HVA.out.below hb13
  have hsb := HVB.out.below hb13
  have HO2 := hid (((Sees.of_owns ho2).below hb3))
  have HO3 := hid (Sees.of_owns ho3)
  clear ho2 ho3 hb12
  go_wp2_with (at_builtin; refine wpList_append_sees rfl _ _ 26 rfl w3.heap.size 3 i0 (.int .i64 0) 8 Try.underlying26 hi hz0 hz1 hz2 rfl .i64 _ 0 [] rfl (World.ownsRow_nil _ _ _ _) _ a rfl hsa ?c3 ?c4 ?c5 ?_)
  case c3 => unfold maxLen; omega
  case c4 => omega
  case c5 => omega
  intro u4 w4 ho4 hg4
  have hb4 : Below w3.heap.size w3 w4 := (Below.refl _ _).grown hg4 (Nat.le_refl _) (fun k hk => by cases hk)
  have ho4' : w4.ownsRow w3.heap.size 3 1 u4 a.length (a.map (Value.int .i64)) := by simpa using ho4
  have hsb4 := hsb.below hb4
  have hz4 := hb4.size
  clear ho4 hg4 hsa hsb
  go_wp2_with (at_builtin; refine wpList_append_sees rfl _ _ 26 rfl w3.heap.size 3 i0 (.int .i64 0) 8 Try.underlying26 hi hz0 hz1 hz2 rfl .i64 _ _ _ rfl ho4' _ b rfl hsb4 ?c3 ?c4 ?c5 ?_)
  case c3 => unfold maxLen; omega
  case c4 => omega
  case c5 => omega
  intro u5 w5 ho5 hg5
  have hb5 : Below w3.heap.size w3 w5 := hb4.grown hg5 hz4 (fun k hk => (ho4'.lt k hk).1)
  have hs5 : Sees w5 .i64 u5 (a ++ b) := Sees.of_owns (n := a.length + b.length) (base := w3.heap.size) (e := 3) (by simpa using ho5)
  clear ho4' ho5 hg5 hsb4 hb4
  go_wp2_with fail
  refine (putAll_any _ _ _ hs5 (by simp; omega)).mono ?_
  rintro e w6 ⟨u6, rfl, ho6, hb6⟩
  have c2 := ((HO2.out.below hb5).below hb6).strT
  have c3 := ((HO3.out.below hb5).below hb6).strT
  have c6 := (Sees.of_owns ho6).strT
  have HB := hid (hb13.trans ((hb5.trans (hb6.mono hb5.size)).mono hb13.size))
  clear ho6 hs5 hb13 hb1 hb2 hb3 hb5 hb6 HO2 HO3
  by_cases t1 : allT a = true
  · by_cases t2 : allT b = true
    · have e1 : paE a = 0 := by simp [paE, t1]
      have e2 : paE b = 0 := by simp [paE, t2]
      have t3 : allT (a ++ b) = true := by rw [allT_append, t1, t2]; rfl
      have e3 : paE (a ++ b) = 0 := by simp [paE, t3]
      have e4 : paB (a ++ b) = paB a ++ paB b := by simp [paB, t1, t2, t3, encAll_append]
      rw [e1, e2, e3]
      rw [e4] at c6
      have s1 : (paB a).length ≤ 7 * a.length := by simp only [paB, t1, if_true]; exact encAll_len a
      have s2 : (paB b).length ≤ 7 * b.length := by simp only [paB, t2, if_true]; exact encAll_len b
      clear e1 e2 e3 e4 t1 t2 t3
      generalize paB a = x1 at *
      generalize paB b = x2 at *
      have hst : (strOfNums (x1 ++ x2)).toList = (strOfNums x1).toList ++ (strOfNums x2).toList := by simp [str_toList]
      have hcat : (strOfNums x1 ++ strOfNums x2).toList = (strOfNums x1).toList ++ (strOfNums x2).toList := by simp [ByteArray.toList_eq, ByteArray.data_append]
      have hsum : ¬ 9223372036854775807 < (strOfNums x1).size + (strOfNums x2).size := by rw [strOfNums_size, strOfNums_size]; omega
      clear s1 s2
      go_wp2
      go_ret
      exact ⟨rfl, HB.out⟩
    · have t2' : allT b = false := by simpa using t2
      have e2 : paE b = 1 := by simp [paE, t2']
      have t3 : allT (a ++ b) = false := by rw [allT_append, t2']; simp
      have e3 : paE (a ++ b) = 1 := by simp [paE, t3]
      rw [e2, e3]
      have e1 : paE a = 0 := by simp [paE, t1]
      rw [e1]
      clear e1 e2 e3 t1 t2 t3 t2' c2 c3 c6
      go_wp2
      go_ret
      exact ⟨rfl, HB.out⟩
  · have t1' : allT a = false := by simpa using t1
    have e1 : paE a = 1 := by simp [paE, t1']
    have t3 : allT (a ++ b) = false := by rw [allT_append, t1']; rfl
    have e3 : paE (a ++ b) = 1 := by simp [paE, t3]
    rw [e1, e3]
    clear e1 e3 t1 t3 t1' c2 c3 c6
    go_wp2
    go_ret
    exact ⟨rfl, HB.out⟩

set_option maxRecDepth 100000 in
set_option maxHeartbeats 400000 in
theorem walk_WordSizes (w : World) (n : Int) (hn : (Lit.int .i64 n).wf = true) :
    Calls Try.prog 9 #[.int .i64 n] w fun e w' => e = .returned (.bool true) ∧ Below w.heap.size w w' := by
  go_enter Try.func9, Try.ntmps9
  go_wp2_with fail
  refine (awake_any _).mono ?_
  rintro e w1 ⟨rfl, hb1⟩
  go_wp2_with fail
  refine (put_any _ _).mono ?_
  rintro e w2 ⟨u, rfl, ho2, hb2⟩
  have hb12 := hb1.trans (hb2.mono hb1.size)
  clear hb1 hb2
  by_cases ht : isT n = true
  · have hb := ht
    simp [isT] at hb
    have e1 : putE n = 0 := by simp [putE, ht]
    have e2 : putB n = enc n.toNat := by simp [putB, ht]
    rw [e1]
    rw [e2] at ho2
    obtain ⟨z1, z2, z3, z4⟩ := enc_size n.toNat (by omega)
    have hby := hid (enc_bytes n.toNat (by omega))
    obtain ⟨a, cap, rfl, hc1, hc2, hcells⟩ := (Sees.of_owns ho2).form
    obtain ⟨b, off, rfl, hbw, hcells⟩ := hcells (by omega)
    have HC := hid hcells
    have Z1 := hid z1
    have Z2 := hid z2
    clear e1 e2 ho2 ht hcells z1 z2
    generalize enc n.toNat = l at *
    go_wp2
    go_loop [6, 7] (fun t i => ∃ k : Nat, k ≤ l.length ∧ i = .int .i64 k ∧ t = .int .i64 (lst k)) (fun _ i => l.length - (intOf i).toNat)
    case atStart => exact ⟨0, by omega, rfl, rfl⟩
    case round =>
      obtain ⟨k, hk, rfl, rfl⟩ := hrel
      by_cases hlt : k < l.length
      · have hcell := HC.out k hlt
        obtain ⟨y1, y2, y3⟩ := hby.out k hlt
        generalize l.getD k 0 = x at *
        by_cases hlast : k + 1 = l.length
        · have hx := decide_eq_true (y3.2 hlast)
          have hke : ((k : Int) == (l.length : Int) - 1) = true := by rw [beq_iff_eq]; omega
          have HL := hid hlast
          clear y3 hlast
          by_cases h0 : 0 < k
          · have HP := hid (lst_pow k h0 (by omega))
            go_wp2
            go_round
            case rel => exact ⟨k + 1, by omega, by go_num, by rw [HP.out]⟩
            case measure => simp [intOf]; omega
          · have HP := hid (show lst k = lst (k + 1) by unfold lst; rw [if_pos (by omega), if_pos (by omega)])
            go_wp2
            go_round
            case rel => exact ⟨k + 1, by omega, by go_num, by rw [HP.out]⟩
            case measure => simp [intOf]; omega
        · have hx : ¬ x < 128 := fun h => hlast (y3.1 h)
          have hx' := decide_eq_false hx
          have hke : ((k : Int) == (l.length : Int) - 1) = false := by rw [beq_eq_false_iff_ne]; omega
          clear y3 hlast
          by_cases h0 : 0 < k
          · have HP := hid (lst_pow k h0 (by omega))
            go_wp2
            go_round
            case rel => exact ⟨k + 1, by omega, by go_num, by rw [HP.out]⟩
            case measure => simp [intOf]; omega
          · have HP := hid (show lst k = lst (k + 1) by unfold lst; rw [if_pos (by omega), if_pos (by omega)])
            go_wp2
            go_round
            case rel => exact ⟨k + 1, by omega, by go_num, by rw [HP.out]⟩
            case measure => simp [intOf]; omega
      · have hkl : k = l.length := by omega
        have q1 : lst k ≤ n := by have := lst_lo k n.toNat (by rw [hkl]; exact Z2.out); omega
        have q2 : n < wrap64 (2 ^ (7 * l.length)) := by rw [lst_pow _ z4 z3]; have := lst_hi l.length n.toNat z4 Z1.out; omega
        clear hkl
        go_wp2
        go_ret
        exact ⟨rfl, hb12⟩
  · have ht' : isT n = false := by simpa using ht
    have e1 : putE n = 1 := by simp [putE, ht']
    have e2 : putB n = [] := by simp [putB, ht']
    rw [e1]
    rw [e2] at ho2
    obtain ⟨a, cap, rfl, hc1, hc2, hcells⟩ := (Sees.of_owns ho2).form
    clear e1 e2 ho2
    go_wp2
    go_ret
    exact ⟨rfl, hb12⟩
end Go.Proofs.Ytibjbpocgcjkcaa
