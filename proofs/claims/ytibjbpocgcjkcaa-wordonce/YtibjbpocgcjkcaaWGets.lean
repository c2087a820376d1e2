/-
  The laws WordGets, WordBack and WordOnce return true, whatever they are given, and nothing that was there is written.
-/
import Derived.Test.YtibjbpocgcjkcaaWGetAll
import Derived.Test.YtibjbpocgcjkcaaWMath2
import Derived.Test.YtibjbpocgcjkcaaWPuts
import Derived.Test.YtibjbpocgcjkcaaWSame
import Derived.Test.YtibjbpocgcjkcaaWAwake
import Derived.BigQuiet
import Derived.WalkSmall
namespace Go.Proofs.Ytibjbpocgcjkcaa
open Go.RowKit
set_option linter.unusedVariables false

theorem u8_bd {l : List Int} (h : ∀ n ∈ l, (Lit.int .u8 n).wf = true) : ∀ c ∈ l, 0 ≤ c ∧ c ≤ 255 := fun c hc => bounds_u8 (h c hc)

theorem encAll_bytes (l : List Int) (h : allT l = true) : ∀ c ∈ encAll l, 0 ≤ c ∧ c ≤ 255 := by
  intro c hc
  simp only [encAll, List.mem_flatMap] at hc
  obtain ⟨n, hn, hc⟩ := hc
  have ht : isT n = true := by simp only [allT, List.all_eq_true] at h; exact h n hn
  obtain ⟨i, hi, rfl⟩ := List.mem_iff_getElem.1 hc
  have := enc_bytes n.toNat (isT_nat ht).2 i hi
  simp [List.getD, List.getElem?_eq_getElem hi] at this
  omega

set_option maxRecDepth 100000 in
set_option maxHeartbeats 400000 in
theorem walk_WordGets (w : World) (v : Value) (l : List Int) (hv : Sees w .u8 v l) (hw : ∀ n ∈ l, (Lit.int .u8 n).wf = true) :
    Calls Try.prog 6 #[v] w fun e w' => e = .returned (.bool true) ∧ Below w.heap.size w w' := by
  obtain ⟨a, cap, rfl, hc1, hc2, hcells⟩ := hv.form
  have hm := hc2
  unfold maxLen at hm
  have HY := hid (u8_bd hw)
  clear hcells hw
  have HV := hid hv
  clear hv
  go_enter Try.func6, Try.ntmps6
  go_wp2_with fail
  refine (awake_any _).mono ?_
  rintro e w1 ⟨rfl, hb1⟩
  by_cases hl : 2000 < l.length
  · go_wp2
    go_ret
    exact ⟨rfl, hb1⟩
  · go_wp2_with fail
    refine (get_any _ _ _ (HV.out.below hb1) HY.out).mono ?_
    rintro e w2 ⟨rfl, hb2⟩
    have hb12 := hb1.trans (hb2.mono hb1.size)
    go_wp2_with fail
    refine (rget_any _ _ _ (HV.out.below hb12) HY.out).mono ?_
    rintro e w3 ⟨rfl, rfl⟩
    go_wp2_with fail
    refine (getAll_any _ _ _ (HV.out.below hb12) HY.out (by omega)).mono ?_
    rintro e w4 ⟨u4, rfl, ho4, hb4⟩
    have hb14 := hb12.trans (hb4.mono hb12.size)
    go_wp2_with fail
    refine (rgetAll_any _ _ _ (HV.out.below hb14) HY.out (by omega)).mono ?_
    rintro e w5 ⟨u5, rfl, ho5, hb5⟩
    have hb15 := hb14.trans (hb5.mono hb14.size)
    go_wp2_with fail
    refine (same_any _ _ _ _ _ ((Sees.of_owns ho4).below hb5) (Sees.of_owns ho5)).mono ?_
    rintro e w6 ⟨rfl, hb6⟩
    have HB := hid (hb15.trans (hb6.mono hb15.size))
    rw [decide_eq_true rfl]
    clear ho4 ho5 hb1 hb2 hb4 hb5 hb6 hb12 hb14 hb15
    generalize ga l = x1 at *
    generalize get l = x2 at *
    go_wp2
    go_ret
    exact ⟨rfl, HB.out⟩

set_option maxRecDepth 100000 in
set_option maxHeartbeats 400000 in
theorem walk_WordBack (w : World) (n : Int) (hn : (Lit.int .i64 n).wf = true) (v : Value) (l : List Int) (hv : Sees w .i64 v l) (hw : ∀ n ∈ l, (Lit.int .i64 n).wf = true)
    (vr : Value) (r : List Int) (hvr : Sees w .u8 vr r) (hwr : ∀ n ∈ r, (Lit.int .u8 n).wf = true) :
    Calls Try.prog 7 #[.int .i64 n, v, vr] w fun e w' => e = .returned (.bool true) ∧ Below w.heap.size w w' := by
  obtain ⟨i0, hi, hz0, hz1, hz2⟩ := info_parts Try.infoU8
  obtain ⟨a, cap, rfl, hc1, hc2, _⟩ := hv.form
  obtain ⟨ar, capr, rfl, hd1, hd2, _⟩ := hvr.form
  have hm := hc2
  have hmr := hd2
  unfold maxLen at hm hmr
  have HY := hid (u8_bd hwr)
  clear hw hwr
  have HV := hid hv
  have HR := hid hvr
  clear hv hvr
  go_enter Try.func7, Try.ntmps7
  go_wp2_with fail
  refine (awake_any _).mono ?_
  rintro e w1 ⟨rfl, hb1⟩
  by_cases hl : 500 < l.length
  · go_wp2
    go_ret
    exact ⟨rfl, hb1⟩
  by_cases hl2 : 2000 < r.length
  · go_wp2
    go_ret
    exact ⟨rfl, hb1⟩
  go_wp2_with fail
  refine (put_any _ _).mono ?_
  rintro e w2 ⟨u2, rfl, ho2, hb2⟩
  have hb12 := hb1.trans (hb2.mono hb1.size)
  -- the rest, from the second half on
  by_cases ht : isT n = true
  · have e1 : putE n = 0 := by simp [putE, ht]
    have e2 : putB n = enc n.toNat := by simp [putB, ht]
    obtain ⟨t1, t2⟩ := isT_nat ht
    have hsz := (enc_size n.toNat t2).2.2
    have HGE := hid (get_enc n.toNat r t2)
    have HEB := hid (enc_bytes n.toNat t2)
    rw [t1] at HGE
    rw [e1]
    rw [e2] at ho2
    clear e1 e2 ht
    generalize enc n.toNat = ex at *
    have hs2 := Sees.of_owns ho2
    obtain ⟨a2, c2, rfl, hg1, hg2, _⟩ := hs2.form
    have hr2 := HR.out.below hb12
    clear ho2
    go_wp2_with (at_builtin; refine wpList_append_sees rfl _ _ 27 rfl w2.heap.size 5 i0 (.int .u8 0) 1 Try.underlying27 hi hz0 hz1 hz2 rfl .u8 _ 0 [] rfl (World.ownsRow_nil _ _ _ _) _ ex rfl hs2 ?c3 ?c4 ?c5 ?_)
    case c3 => unfold maxLen; omega
    case c4 => omega
    case c5 => omega
    intro u4 w4 ho4 hg4
    have hb4 : Below w2.heap.size w2 w4 := (Below.refl _ _).grown hg4 (Nat.le_refl _) (fun k hk => by cases hk)
    have ho4' : w4.ownsRow w2.heap.size 5 1 u4 ex.length (ex.map (Value.int .u8)) := by simpa using ho4
    have hr4 := hr2.below hb4
    have hz4 := hb4.size
    clear ho4 hg4 hr2 hs2
    go_wp2_with (at_builtin; refine wpList_append_sees rfl _ _ 27 rfl w2.heap.size 5 i0 (.int .u8 0) 1 Try.underlying27 hi hz0 hz1 hz2 rfl .u8 _ _ _ rfl ho4' _ r rfl hr4 ?c3 ?c4 ?c5 ?_)
    case c3 => unfold maxLen; omega
    case c4 => omega
    case c5 => omega
    intro u5 w5 ho5 hg5
    have hb5 : Below w2.heap.size w2 w5 := hb4.grown hg5 hz4 (fun k hk => (ho4'.lt k hk).1)
    have hs5 : Sees w5 .u8 u5 (ex ++ r) := Sees.of_owns (n := ex.length + r.length) (base := w2.heap.size) (e := 5) (by simpa using ho5)
    clear ho4' ho5 hg5 hr4 hb4
    go_wp2_with fail
    refine (get_any _ _ _ hs5 ?hyy).mono ?_
    case hyy =>
      intro c hc
      rcases List.mem_append.1 hc with hc | hc
      · obtain ⟨i, hi, rfl⟩ := List.mem_iff_getElem.1 hc
        have := HEB.out i hi
        simp [List.getD, List.getElem?_eq_getElem hi] at this
        omega
      · exact HY.out c hc
    rintro e w6 ⟨rfl, hb6⟩
    rw [HGE.out]
    have hb16 := hb12.trans ((hb5.trans (hb6.mono hb5.size)).mono hb12.size)
    clear hb1 hb2 hb5 hb6 hs5 hb12
    go_wp2_with fail
    refine (putAll_any _ _ _ (HV.out.below hb16) (by omega)).mono ?_
    rintro e w7 ⟨u7, rfl, ho7, hb7⟩
    have hb17 := hb16.trans (hb7.mono hb16.size)
    by_cases hta : allT l = true
    · have e1 : paE l = 0 := by simp [paE, hta]
      have e2 : paB l = encAll l := by simp [paB, hta]
      have hen := encAll_len l
      rw [e1]
      rw [e2] at ho7
      go_wp2_with fail
      refine (getAll_any _ _ _ (Sees.of_owns ho7) (encAll_bytes l hta) (by omega)).mono ?_
      rw [ga_enc l hta]
      rintro e w8 ⟨u8, rfl, ho8, hb8⟩
      have hb18 := hb17.trans (hb8.mono hb17.size)
      go_wp2_with fail
      refine (same_any _ _ _ _ _ (HV.out.below hb18) (Sees.of_owns ho8)).mono ?_
      rintro e w9 ⟨rfl, hb9⟩
      have HB := hid (hb18.trans (hb9.mono hb18.size))
      rw [decide_eq_true rfl]
      clear ho7 ho8 hb7 hb8 hb9 hb16 hb17 hb18 e1 e2 hta hen
      go_wp2
      go_ret
      exact ⟨rfl, HB.out⟩
    · have hta' : allT l = false := by simpa using hta
      have e1 : paE l = 1 := by simp [paE, hta']
      have e2 : paB l = [] := by simp [paB, hta']
      rw [e1]
      rw [e2] at ho7
      obtain ⟨a7, cap7, rfl, _, _, _⟩ := (Sees.of_owns ho7).form
      clear e1 e2 ho7 hta hta' hb7 hb16
      go_wp2
      go_ret
      exact ⟨rfl, hb17⟩
  · have ht' : isT n = false := by simpa using ht
    have e1 : putE n = 1 := by simp [putE, ht']
    rw [e1]
    clear e1 ho2 ht ht' hb1 hb2
    have hb16 := hb12
    clear hb12
    go_wp2_with fail
    refine (putAll_any _ _ _ (HV.out.below hb16) (by omega)).mono ?_
    rintro e w7 ⟨u7, rfl, ho7, hb7⟩
    have hb17 := hb16.trans (hb7.mono hb16.size)
    by_cases hta : allT l = true
    · have e1 : paE l = 0 := by simp [paE, hta]
      have e2 : paB l = encAll l := by simp [paB, hta]
      have hen := encAll_len l
      rw [e1]
      rw [e2] at ho7
      go_wp2_with fail
      refine (getAll_any _ _ _ (Sees.of_owns ho7) (encAll_bytes l hta) (by omega)).mono ?_
      rw [ga_enc l hta]
      rintro e w8 ⟨u8, rfl, ho8, hb8⟩
      have hb18 := hb17.trans (hb8.mono hb17.size)
      go_wp2_with fail
      refine (same_any _ _ _ _ _ (HV.out.below hb18) (Sees.of_owns ho8)).mono ?_
      rintro e w9 ⟨rfl, hb9⟩
      have HB := hid (hb18.trans (hb9.mono hb18.size))
      rw [decide_eq_true rfl]
      clear ho7 ho8 hb7 hb8 hb9 hb16 hb17 hb18 e1 e2 hta hen
      go_wp2
      go_ret
      exact ⟨rfl, HB.out⟩
    · have hta' : allT l = false := by simpa using hta
      have e1 : paE l = 1 := by simp [paE, hta']
      have e2 : paB l = [] := by simp [paB, hta']
      rw [e1]
      rw [e2] at ho7
      obtain ⟨a7, cap7, rfl, _, _, _⟩ := (Sees.of_owns ho7).form
      clear e1 e2 ho7 hta hta' hb7 hb16
      go_wp2
      go_ret
      exact ⟨rfl, hb17⟩

set_option maxRecDepth 100000 in
set_option maxHeartbeats 400000 in
theorem walk_WordOnce (w : World) (v : Value) (l : List Int) (hv : Sees w .u8 v l) (hw : ∀ n ∈ l, (Lit.int .u8 n).wf = true) :
    Calls Try.prog 8 #[v] w fun e w' => e = .returned (.bool true) ∧ Below w.heap.size w w' := by
  obtain ⟨a, cap, rfl, hc1, hc2, hcells⟩ := hv.form
  have hm := hc2
  unfold maxLen at hm
  have HY := hid (u8_bd hw)
  have HC := hid hcells
  clear hcells hw
  have HV := hid hv
  clear hv
  go_enter Try.func8, Try.ntmps8
  go_wp2_with fail
  refine (awake_any _).mono ?_
  rintro e w1 ⟨rfl, hb1⟩
  by_cases hl : 2000 < l.length
  · go_wp2
    go_ret
    exact ⟨rfl, hb1⟩
  go_wp2_with fail
  refine (get_any _ _ _ (HV.out.below hb1) HY.out).mono ?_
  rintro e w2 ⟨rfl, hb2⟩
  have hb12 := hb1.trans (hb2.mono hb1.size)
  by_cases he : (get l).2.2 = 0
  · obtain ⟨q, j, h1, h2, h3, h4, h5, h6⟩ := get_inv l HY.out he
    rw [h3]
    have ht : isT (q : Int) = true := by simp [isT]; omega
    have e1 : putE (q : Int) = 0 := by simp [putE, ht]
    have e2 : putB (q : Int) = l.take j := by simp [putB, ht, h4]
    have H6 := hid h6
    obtain ⟨b, off, rfl, hbw, hcell⟩ := HC.out (by omega)
    clear h3 h4 h5 h6 he ht hb1 hb2
    go_wp2_with fail
    refine (put_any _ _).mono ?_
    rw [e1, e2]
    rintro e w3 ⟨u3, rfl, ho3, hb3⟩
    have hb13 := hb12.trans (hb3.mono hb12.size)
    clear e1 e2
    have hj : ((j : Int) - 1) = ((j - 1 : Nat) : Int) := by omega
    go_wp2_with fail
    refine (get_any _ _ _ ((Sees.taken (j - 1) (by omega) hc1 hc2 hcell).below hb13) (fun c hc => HY.out c (List.mem_of_mem_take hc))).mono ?_
    rw [H6.out]
    rintro e w4 ⟨rfl, hb4⟩
    have hb14 := hb13.trans (hb4.mono hb13.size)
    have hs3 := (Sees.of_owns ho3).below hb4
    have hs4 := (Sees.taken j h2 hc1 hc2 hcell).below hb14
    have c3 : ∀ n, (convert 27 9 u3).run Try.prog (w4.drewN n) = .ok (.string (strOfNums (l.take j))) (w4.drewN n) := fun n => Sees.strT (Sees.below hs3 (below_drewN (Below.refl _ _) _))
    have c4 : ∀ n, (convert 27 9 (.slice (some ⟨b, off, none⟩) j cap)).run Try.prog (w4.drewN n) = .ok (.string (strOfNums (l.take j))) (w4.drewN n) := fun n => Sees.strT (Sees.below hs4 (below_drewN (Below.refl _ _) _))
    clear hcell HC HV ho3 hb3 hb12 hb13 hb4 hs3 hs4 H6
    go_wp2
    go_quiet (fail)
    go_wp2
    go_ret
    exact ⟨rfl, below_drewN hb14 _⟩
  · obtain ⟨e1, e2⟩ := get_zero l he
    have hne : ((get l).2.2 != 0) = true := by simpa using he
    rw [e1, e2]
    clear e1 e2 he HY HC HV
    generalize (get l).2.2 = y at *
    go_wp2
    go_ret
    exact ⟨rfl, hb12⟩
end Go.Proofs.Ytibjbpocgcjkcaa
