/-
  The chapter's examples hold; InstrRange, InstrOnce and InstrJoins return true, whatever they are given, and nothing that was there is written.
-/
import Derived.Test.YtfhjlpkejmjigaaDoorIMath2
import Derived.Test.YtfhjlpkejmjigaaDoorIUp
namespace Go.Proofs.YtfhjlpkejmjigaaDoor
open Go.RowKit
set_option linter.unusedVariables false

theorem Sees.strI {w : World} {v : Value} {xs : List Int} (h : Sees w .u8 v xs) : (convert 26 9 v).run Tryd.prog w = .ok (.string (strOfNums xs)) w :=
  h.str 26 5 9 Tryd.underlying26 Tryd.underlying5 Tryd.underlying9
theorem u8_bdI {l : List Int} (h : ∀ n ∈ l, (Lit.int .u8 n).wf = true) : ∀ c ∈ l, 0 ≤ c ∧ c ≤ 255 := fun c hc => bounds_u8 (h c hc)

set_option maxRecDepth 100000 in
set_option maxHeartbeats 800000 in
theorem iawake_any (w : World) (hL : Laid w) :
    Calls Tryd.prog 9 #[] w fun e w' => e = .returned (.bool true) ∧ Below w.heap.size w w' := by
  have HL := hid hL
  clear hL
  go_enter Tryd.func9, Tryd.ntmps9
  go_wp2_with fail
  refine (iput_any ⟨1, 1, -3⟩ _ HL.out).mono ?_
  rintro e w1 ⟨v1, rfl, ho1, hb1⟩
  go_wp2_with fail
  refine (iput_any ⟨19, 0, 2⟩ _ (HL.out.below hb1)).mono ?_
  rintro e w2 ⟨v2, rfl, ho2, hb2⟩
  have c1 := ((Sees.of_owns ho1).below hb2).strI
  have c2 := (Sees.of_owns ho2).strI
  have hb12 := hb1.trans (hb2.mono hb1.size)
  rw [show iputB ⟨1, 1, -3⟩ = [1, 1, 5] by decide] at c1
  rw [show iputB ⟨19, 0, 2⟩ = [19, 0, 4] by decide] at c2
  rw [show iputE ⟨1, 1, -3⟩ = 0 by decide, show iputE ⟨19, 0, 2⟩ = 0 by decide]
  have h1 : ((strOfNums [1, 1, 5]).toList == [1, 1, 5]) = true := by rw [str_toList]; decide
  have h2 : ((strOfNums [19, 0, 4]).toList == [19, 0, 4]) = true := by rw [str_toList]; decide
  have HB := hid hb12
  clear ho1 ho2 hb1 hb2 hb12
  go_wp2_with fail
  refine (imay_any ⟨0, 0, 0⟩ _ (HL.out.below HB.out)).mono ?_
  rintro e w3 ⟨rfl, hb3⟩
  rw [show mayI ⟨0, 0, 0⟩ = true by decide]
  go_wp2
  go_ret
  exact ⟨rfl, HB.out.trans (hb3.mono HB.out.size)⟩

theorem may_a (o b : Int) (a : Int) (h : a < 0 ∨ 3 < a) : mayI ⟨o, a, b⟩ = false := by
  cases hm : mayI ⟨o, a, b⟩
  · rfl
  · have := mayI_bounds hm; simp only at this; omega
theorem may_b (o a b : Int) (h : 549755813888 < b) : mayI ⟨o, a, b⟩ = false := by
  cases hm : mayI ⟨o, a, b⟩
  · rfl
  · have := mayI_bounds hm; simp only at this; omega
theorem may_o (a b : Int) : mayI ⟨20, a, b⟩ = false := by
  cases hm : mayI ⟨20, a, b⟩
  · rfl
  · have := mayI_bounds hm; simp only at this; omega

set_option maxRecDepth 100000 in
set_option maxHeartbeats 800000 in
theorem walk_InstrRange (w : World) (hL : Laid w) (i : In) (hf : i.fit) :
    Calls Tryd.prog 7 #[i.val] w fun e w' => e = .returned (.bool true) ∧ Below w.heap.size w w' := by
  have hnot := Tryd.hnot
  have HL := hid hL
  clear hL hf
  obtain ⟨o, a, b⟩ := i
  have HB := hid (alloc_belowI w (.cells #[.int .i64 o, .int .i64 a, .int .i64 b] 23))
  unfold In.val
  simp only
  go_enter Tryd.func7, Tryd.ntmps7
  go_wp2_with fail
  refine (iawake_any _ (HL.out.below HB.out)).mono ?_
  rintro e w1 ⟨rfl, hb1⟩
  have c0 : w1.cell? ⟨w.heap.size, 0, none⟩ = some (.int .i64 o) := (hb1.cell (by simp)).trans (by simp)
  have c1 : w1.cell? ⟨w.heap.size, 1, none⟩ = some (.int .i64 a) := (hb1.cell (by simp)).trans (by simp)
  have c2 : w1.cell? ⟨w.heap.size, 2, none⟩ = some (.int .i64 b) := (hb1.cell (by simp)).trans (by simp)
  have hz1 : w.heap.size < w1.heap.size := by have := hb1.size; simp at this; omega
  have hbw := HB.out.trans (hb1.mono HB.out.size)
  clear hb1 HB
  go_wp2_with fail
  refine (imay_any ⟨o, a, b⟩ _ (HL.out.below hbw)).mono ?_
  rintro e w2 ⟨rfl, hb2⟩
  replace c0 := (hb2.cell (by exact hz1)).trans c0
  replace c1 := (hb2.cell (by exact hz1)).trans c1
  replace c2 := (hb2.cell (by exact hz1)).trans c2
  have hz2 : w.heap.size < w2.heap.size := by have := hb2.size; omega
  replace hbw := hbw.trans (hb2.mono hbw.size)
  clear hb2
  by_cases hm : mayI ⟨o, a, b⟩ = true
  · rw [hm]
    obtain ⟨_, _, ha0, ha3, _, _⟩ := mayI_bounds hm
    simp only at ha0 ha3
    clear hm
    have HB3 := hid ((((alloc_belowI w2 (.cells #[.int .i64 o, .int .i64 4, .int .i64 b] 23)).alloc (by simp) (.cells #[.int .i64 o, .int .i64 a, .int .i64 549755813889] 23)).alloc (by simp; omega) (.cells #[.int .i64 20, .int .i64 a, .int .i64 b] 23)))
    have d0 := (HB3.out.cell (p := ⟨w.heap.size, 0, none⟩) hz2).trans c0
    have d1 := (HB3.out.cell (p := ⟨w.heap.size, 1, none⟩) hz2).trans c1
    have d2 := (HB3.out.cell (p := ⟨w.heap.size, 2, none⟩) hz2).trans c2
    have HB4 := hid (HB3.out.alloc (by simp; omega) (.cells #[.int .i64 o, .int .i64 (-1), .int .i64 b] 23))
    obtain ⟨W4, hW4⟩ : ∃ W, W = (((w2.alloc (.cells #[.int .i64 o, .int .i64 4, .int .i64 b] 23)).alloc (.cells #[.int .i64 o, .int .i64 a, .int .i64 549755813889] 23)).alloc (.cells #[.int .i64 20, .int .i64 a, .int .i64 b] 23)).alloc (.cells #[.int .i64 o, .int .i64 (-1), .int .i64 b] 23) := ⟨_, rfl⟩
    have hsz4 : W4.heap.size = w2.heap.size + 4 := by rw [hW4]; simp
    have hx : ∀ w', Below W4.heap.size W4 w' → w'.cell? ⟨w2.heap.size, 0, none⟩ = some (.int .i64 o) ∧ w'.cell? ⟨w2.heap.size, 1, none⟩ = some (.int .i64 4) ∧ w'.cell? ⟨w2.heap.size, 2, none⟩ = some (.int .i64 b) ∧
        w'.cell? ⟨w2.heap.size + 1, 0, none⟩ = some (.int .i64 o) ∧ w'.cell? ⟨w2.heap.size + 1, 1, none⟩ = some (.int .i64 a) ∧ w'.cell? ⟨w2.heap.size + 1, 2, none⟩ = some (.int .i64 549755813889) ∧
        w'.cell? ⟨w2.heap.size + 1 + 1, 0, none⟩ = some (.int .i64 20) ∧ w'.cell? ⟨w2.heap.size + 1 + 1, 1, none⟩ = some (.int .i64 a) ∧ w'.cell? ⟨w2.heap.size + 1 + 1, 2, none⟩ = some (.int .i64 b) ∧
        w'.cell? ⟨w2.heap.size + 1 + 1 + 1, 0, none⟩ = some (.int .i64 o) ∧ w'.cell? ⟨w2.heap.size + 1 + 1 + 1, 1, none⟩ = some (.int .i64 (-1)) ∧ w'.cell? ⟨w2.heap.size + 1 + 1 + 1, 2, none⟩ = some (.int .i64 b) ∧
        w'.cell? ⟨w.heap.size, 1, none⟩ = some (.int .i64 a) := by
      intro w' hb
      have l1 (j : Nat) : w'.cell? ⟨w2.heap.size, j, none⟩ = #[Value.int .i64 o, .int .i64 4, .int .i64 b][j]? := by
        rw [hb.cell (by show w2.heap.size < _; omega), hW4, World.cell?_alloc_lt _ _ _ (by simp; omega), World.cell?_alloc_lt _ _ _ (by simp; omega), World.cell?_alloc_lt _ _ _ (by simp), World.cell?_alloc_new]
      have l2 (j : Nat) : w'.cell? ⟨w2.heap.size + 1, j, none⟩ = #[Value.int .i64 o, .int .i64 a, .int .i64 549755813889][j]? := by
        rw [hb.cell (by show w2.heap.size + 1 < _; omega), hW4, World.cell?_alloc_lt _ _ _ (by simp), World.cell?_alloc_lt _ _ _ (by simp)]
        rw [show w2.heap.size + 1 = (w2.alloc (.cells #[.int .i64 o, .int .i64 4, .int .i64 b] 23)).heap.size by simp, World.cell?_alloc_new]
      have l3 (j : Nat) : w'.cell? ⟨w2.heap.size + 1 + 1, j, none⟩ = #[Value.int .i64 20, .int .i64 a, .int .i64 b][j]? := by
        rw [hb.cell (by show w2.heap.size + 1 + 1 < _; omega), hW4, World.cell?_alloc_lt _ _ _ (by simp)]
        rw [show w2.heap.size + 1 + 1 = ((w2.alloc (.cells #[.int .i64 o, .int .i64 4, .int .i64 b] 23)).alloc (.cells #[.int .i64 o, .int .i64 a, .int .i64 549755813889] 23)).heap.size by simp, World.cell?_alloc_new]
      have l4 (j : Nat) : w'.cell? ⟨w2.heap.size + 1 + 1 + 1, j, none⟩ = #[Value.int .i64 o, .int .i64 (-1), .int .i64 b][j]? := by
        rw [hb.cell (by show w2.heap.size + 1 + 1 + 1 < _; omega), hW4]
        rw [show w2.heap.size + 1 + 1 + 1 = (((w2.alloc (.cells #[.int .i64 o, .int .i64 4, .int .i64 b] 23)).alloc (.cells #[.int .i64 o, .int .i64 a, .int .i64 549755813889] 23)).alloc (.cells #[.int .i64 20, .int .i64 a, .int .i64 b] 23)).heap.size by simp, World.cell?_alloc_new]
      refine ⟨l1 0, l1 1, l1 2, l2 0, l2 1, l2 2, l3 0, l3 1, l3 2, l4 0, l4 1, l4 2, ?_⟩
      rw [hb.cell (by show w.heap.size < _; omega), hW4, HB4.out.cell (by exact hz2)]
      exact c1
    have HX := hid hx
    have HW4 := hid hW4
    rw [← hW4] at HB4
    have e1 : mayI ⟨o, 4, b⟩ = false := may_a _ _ _ (by omega)
    have e2 : mayI ⟨o, a, 549755813889⟩ = false := may_b _ _ _ (by omega)
    have e3 : mayI ⟨20, a, b⟩ = false := may_o _ _
    have e4 : mayI ⟨o, -1, b⟩ = false := may_a _ _ _ (by omega)
    have hbw4 := hbw.trans (HB4.out.mono hbw.size)
    clear hx hsz4 hbw hW4
    go_wp2_with fail
    rw [← HW4.out]
    clear d0 d1 d2 HW4 HB3 c0 c1 c2
    refine (imay_any ⟨o, 4, b⟩ _ (HL.out.below hbw4)).mono ?_
    rintro e w3 ⟨rfl, hb3⟩
    rw [e1]
    obtain ⟨_, _, _, x0, x1, x2, _⟩ := HX.out _ hb3
    go_wp2_with fail
    refine (imay_any ⟨o, a, 549755813889⟩ _ (HL.out.below (hbw4.trans (hb3.mono hbw4.size)))).mono ?_
    rintro e w5 ⟨rfl, hb5⟩
    rw [e2]
    replace hb5 := hb3.trans (hb5.mono hb3.size)
    clear x0 x1 x2
    obtain ⟨_, _, _, _, _, _, x0, x1, x2, _⟩ := HX.out _ hb5
    go_wp2_with fail
    refine (imay_any ⟨20, a, b⟩ _ (HL.out.below (hbw4.trans (hb5.mono hbw4.size)))).mono ?_
    rintro e w6 ⟨rfl, hb6⟩
    rw [e3]
    replace hb6 := hb5.trans (hb6.mono hb5.size)
    clear x0 x1 x2
    obtain ⟨_, _, _, _, _, _, _, _, _, x0, x1, x2, _⟩ := HX.out _ hb6
    go_wp2_with fail
    refine (imay_any ⟨o, -1, b⟩ _ (HL.out.below (hbw4.trans (hb6.mono hbw4.size)))).mono ?_
    rintro e w7 ⟨rfl, hb7⟩
    rw [e4]
    replace hb7 := hb6.trans (hb7.mono hb6.size)
    clear x0 x1 x2
    obtain ⟨_, _, _, _, _, _, _, _, _, _, _, _, x0⟩ := HX.out _ hb7
    have hbz := hbw4.trans (hb7.mono hbw4.size)
    clear hb3 hb5 hb6 hb7 hbw4
    go_wp2
    go_ret
    exact ⟨rfl, hbz⟩
  · rw [show mayI ⟨o, a, b⟩ = false by simpa using hm]
    go_wp2
    go_ret
    exact ⟨rfl, hbw⟩

/-- 'append(s, x...)' where s is the call's own and x is any slice of instructions that is read. -/
theorem wpList_append_seesI {w : World} {ops : Array Oper} {rest : List Oper} {o : Oper} {a : Act} {Q : Exit → Act → World → Prop} (hgd : o.guard = none) (s x : Operand)
    (ho : o.op = .call { callee := .builtin .append, args := #[s, x], argTypes := #[24, 24] }) (base : Nat)
    (v : Value) (n : Nat) (xs : List Value) (hs : a.eval s = v) (hown : w.ownsRow base 23 3 v n xs)
    (y : Value) (ys : List In) (hx : a.eval x = y) (hsee : SeesI w y ys)
    (h63 : n + ys.length ≤ 1000000) (hbase : base ≤ w.heap.size)
    (h : ∀ v' w', w'.ownsRow base 23 3 v' (n + ys.length) (xs ++ (ys.map In.cells).flatten) → w.grownBy w' v.ownBlock → wpList Tryd.prog ops Q rest (a.put o.dst v') w') : wpList Tryd.prog ops Q (o :: rest) a w := by
  obtain ⟨i0, hi, hz0, hz1, hz2⟩ := info_parts Tryd.infoI
  rcases hsee with ⟨rfl, hn⟩ | ⟨ad, cap, rfl, h1, h2, hc⟩
  · have hy : ys = [] := by simpa using hn
    subst hy
    refine wpList_append_own_none hgd s x 24 ho base 23 i0 3 Tryd.underlying24 hi v n xs hs hown hx ?_
    exact h v w (by simpa using hown) (World.grownBy.refl _ _)
  · refine wpList_append_own w hgd s x 24 ho base 23 i0 _ 3 24 Tryd.underlying24 hi hz0 hz1 hz2 rfl (by decide) v n xs hs hown ad _ cap (ys.map In.cells).flatten hx (by rw [in_flat]; simp) (SeesC.cells (in_len ys) hc) (in_one ys) (by simp; unfold maxLen; omega) (by simp; omega) hbase (fun v' w' a b _ => ?_)
    simp only [List.length_map] at a ⊢
    exact h v' w' a b

theorem packE_over (l : List In) (h : 64 < l.length) : packE l = 7 := by simp [packE, h]
theorem packE_ok {l : List In} (h : packE l = 0) : l.length ≤ 64 ∧ allMay l = true := by
  unfold packE at h
  split at h
  · simp at h
  · split at h
    · rename_i h1 h2; exact ⟨by omega, h2⟩
    · simp at h
theorem packB_ok {l : List In} (h : l.length ≤ 64) (hm : allMay l = true) : packB l = iencAll l := by
  unfold packB; rw [if_neg (by omega), if_pos hm]
theorem packB_len (l : List In) : (packB l).length ≤ 21 * l.length := by
  unfold packB
  split
  · simp
  · split
    · exact iencAll_len l
    · simp
theorem packE_not (l : List In) (h : l.length ≤ 64) : packE l ≠ 0 → allMay l = false := by
  intro hn
  cases hm : allMay l
  · rfl
  · exact absurd (by simp [packE, hm]; omega) hn

set_option maxRecDepth 100000 in
set_option maxHeartbeats 1600000 in
theorem walk_InstrJoins (w : World) (hL : Laid w) (va : Value) (a : List In) (ha : SeesI w va a) (hfa : ∀ r ∈ a, r.fit) (vb : Value) (b : List In) (hb : SeesI w vb b) (hfb : ∀ r ∈ b, r.fit) :
    Calls Tryd.prog 8 #[va, vb] w fun e w' => e = .returned (.bool true) ∧ Below w.heap.size w w' := by
  obtain ⟨aa, acap, rfl, hc1, hc2, _⟩ := ha.form
  obtain ⟨ab, bcap, rfl, hd1, hd2, _⟩ := hb.form
  have hm := hc2
  have hm' := hd2
  unfold maxLen at hm hm'
  have HL := hid hL
  have HVA := hid ha
  have HVB := hid hb
  clear ha hb hfa hfb hL
  go_enter Tryd.func8, Tryd.ntmps8
  go_wp2_with fail
  refine (iawake_any _ HL.out).mono ?_
  rintro e w1 ⟨rfl, hb1⟩
  by_cases hl : 100 < a.length
  · go_wp2
    go_ret
    exact ⟨rfl, hb1⟩
  by_cases hl2 : 100 < b.length
  · go_wp2
    go_ret
    exact ⟨rfl, hb1⟩
  go_wp2_with fail
  refine (pack_any _ _ _ (HL.out.below hb1) (HVA.out.below hb1)).mono ?_
  rintro e w2 ⟨u2, rfl, ho2, hb2⟩
  have hb12 := hb1.trans (hb2.mono hb1.size)
  go_wp2_with fail
  refine (pack_any _ _ _ (HL.out.below hb12) (HVB.out.below hb12)).mono ?_
  rintro e w3 ⟨u3, rfl, ho3, hb3⟩
  have hb13 := hb12.trans (hb3.mono hb12.size)
  have hsa := HVA.out.below hb13
  have hsb := HVB.out.below hb13
  have HO2 := hid (((Sees.of_owns ho2).below hb3))
  have HO3 := hid (Sees.of_owns ho3)
  clear ho2 ho3 hb12
  go_wp2_with (at_builtin; refine wpList_append_seesI rfl _ _ rfl w3.heap.size _ 0 [] rfl (World.ownsRow_nil _ _ _ _) _ a rfl hsa ?c3 ?c5 ?_)
  case c3 => omega
  case c5 => omega
  intro u4 w4 ho4 hg4
  have hb4 : Below w3.heap.size w3 w4 := (Below.refl _ _).grown hg4 (Nat.le_refl _) (fun k hk => by cases hk)
  have ho4' : w4.ownsRow w3.heap.size 23 3 u4 a.length (a.map In.cells).flatten := by simpa using ho4
  have hsb4 := hsb.below hb4
  have hz4 := hb4.size
  clear ho4 hg4 hsa hsb
  go_wp2_with (at_builtin; refine wpList_append_seesI rfl _ _ rfl w3.heap.size _ _ _ rfl ho4' _ b rfl hsb4 ?c3 ?c5 ?_)
  case c3 => omega
  case c5 => omega
  intro u5 w5 ho5 hg5
  have hb5 : Below w3.heap.size w3 w5 := hb4.grown hg5 hz4 (fun k hk => (ho4'.lt k hk).1)
  have hs5 : SeesI w5 u5 (a ++ b) := SeesI.of_owns (n := a.length + b.length) (base := w3.heap.size) (e := 23) (by simp) (by simpa using ho5)
  clear ho4' ho5 hg5 hsb4 hb4
  have hb15 := hb13.trans (hb5.mono hb13.size)
  go_wp2_with fail
  refine (pack_any _ _ _ (HL.out.below hb15) hs5).mono ?_
  rintro e w6 ⟨u6, rfl, ho6, hb6⟩
  have c2 := ((HO2.out.below hb5).below hb6).strI
  have c3 := ((HO3.out.below hb5).below hb6).strI
  have c6 := (Sees.of_owns ho6).strI
  have HB := hid (hb15.trans (hb6.mono hb15.size))
  clear ho6 hs5 hb13 hb1 hb2 hb3 hb5 hb6 hb15 HO2 HO3
  by_cases h64 : 64 < a.length + b.length
  · rw [packE_over (a ++ b) (by simpa using h64)]
    go_wp2
    go_ret
    exact ⟨rfl, HB.out⟩
  by_cases t1 : packE a = 0
  · by_cases t2 : packE b = 0
    · obtain ⟨p1, p2⟩ := packE_ok t1
      obtain ⟨q1, q2⟩ := packE_ok t2
      have e3 : packE (a ++ b) = 0 := by simp [packE, allMay_append, p2, q2]; omega
      have e4 : packB (a ++ b) = packB a ++ packB b := by
        rw [packB_ok (by simp; omega) (by simp [allMay_append, p2, q2]), packB_ok p1 p2, packB_ok q1 q2, iencAll_append]
      rw [t1, t2, e3]
      rw [e4] at c6
      have s1 : (packB a).length ≤ 21 * a.length := packB_len a
      have s2 : (packB b).length ≤ 21 * b.length := packB_len b
      clear e3 e4 t1 t2 p2 q2
      generalize packB a = x1 at *
      generalize packB b = x2 at *
      have hst : (strOfNums (x1 ++ x2)).toList = (strOfNums x1).toList ++ (strOfNums x2).toList := by simp [str_toList]
      have hcat : (strOfNums x1 ++ strOfNums x2).toList = (strOfNums x1).toList ++ (strOfNums x2).toList := by simp [ByteArray.toList_eq, ByteArray.data_append]
      have hsum : ¬ 9223372036854775807 < (strOfNums x1).size + (strOfNums x2).size := by rw [strOfNums_size, strOfNums_size]; omega
      clear s1 s2
      go_wp2
      go_ret
      exact ⟨rfl, HB.out⟩
    · have e2 := packE_not b (by omega) t2
      have e3 : packE (a ++ b) = 1 := by simp [packE, allMay_append, e2]; omega
      have t2' : (packE b != 0) = true := by simpa using t2
      rw [t1, e3]
      clear c2 c3 c6 e2 e3 t1 t2
      generalize packE b = y at *
      go_wp2
      go_ret
      exact ⟨rfl, HB.out⟩
  · have e2 := packE_not a (by omega) t1
    have e3 : packE (a ++ b) = 1 := by simp [packE, allMay_append, e2]; omega
    have t1' : (packE a != 0) = true := by simpa using t1
    rw [e3]
    clear c2 c3 c6 e2 e3 t1
    generalize packE a = y at *
    go_wp2
    go_ret
    exact ⟨rfl, HB.out⟩

theorem allMay_at {l : List In} (h : allMay l = true) (k : Nat) (hk : k < l.length) : mayI (l.getD k In.zero) = true := by
  simp only [allMay, List.all_eq_true] at h
  exact h _ (by simp [List.getD, List.getElem?_eq_getElem hk])

set_option maxRecDepth 100000 in
set_option maxHeartbeats 1600000 in
theorem walk_InstrOnce (w : World) (hL : Laid w) (v : Value) (l : List Int) (hv : Sees w .u8 v l) (hw : ∀ n ∈ l, (Lit.int .u8 n).wf = true) :
    Calls Tryd.prog 6 #[v] w fun e w' => e = .returned (.bool true) ∧ Below w.heap.size w w' := by
  have hnot := Tryd.hnot
  obtain ⟨a, cap, rfl, hc1, hc2, hcells⟩ := hv.form
  have hm := hc2
  unfold maxLen at hm
  have HY := hid (u8_bdI hw)
  clear hcells hw
  have HV := hid hv
  have HL := hid hL
  clear hv hL
  go_enter Tryd.func6, Tryd.ntmps6
  go_wp2_with fail
  refine (iawake_any _ HL.out).mono ?_
  rintro e w1 ⟨rfl, hb1⟩
  by_cases hl : 2000 < l.length
  · go_wp2
    go_ret
    exact ⟨rfl, hb1⟩
  go_wp2_with fail
  refine (unpack_any _ _ _ (HL.out.below hb1) (HV.out.below hb1) HY.out).mono ?_
  rintro e w2 ⟨u2, rfl, ho2, hb2⟩
  have hb12 := hb1.trans (hb2.mono hb1.size)
  clear hb1 hb2
  by_cases he : (up l).2 = 0
  · obtain ⟨g1, g2, g3⟩ := up_inv l HY.out he
    rw [he]
    have HG1 := hid g1
    have HG2 := hid g2
    clear g1 g2 he
    obtain ⟨ua, uc, hu, _, _⟩ := owns_slice ho2
    subst hu
    have HS := hid (SeesI.of_owns rfl ho2)
    clear ho2
    generalize (up l).1 = m at *
    go_wp2
    go_loopw [6] (fun i wr => ∃ k : Nat, k ≤ m.length ∧ i = .int .i64 k ∧ Below w2.heap.size w2 wr) (fun i _ => m.length - (intOf i).toNat)
    case atStart => exact ⟨0, by omega, rfl, Below.refl _ _⟩
    case round =>
      obtain ⟨k, hk, rfl, hbel⟩ := hrel
      have hbw := hb12.trans (hbel.mono hb12.size)
      by_cases hlt : k < m.length
      · obtain ⟨ma, mcap, hmv, _, _, hmc⟩ := HS.out.form
        simp only [Value.slice.injEq] at hmv
        obtain ⟨rfl, _, rfl⟩ := hmv
        obtain ⟨b, off, rfl, hbl, hcell⟩ := hmc (by omega)
        obtain ⟨x0, x1, x2⟩ := hcell k hlt
        replace x0 := (hbel.cell (by exact hbl)).trans x0
        replace x1 := (hbel.cell (by exact hbl)).trans x1
        replace x2 := (hbel.cell (by exact hbl)).trans x2
        have HM := hid (allMay_at HG1.out k hlt)
        clear hcell hmc
        generalize m.getD k In.zero = r at *
        obtain ⟨o, a', b'⟩ := r
        simp only at x0 x1 x2
        go_wp2_with fail
        refine (imay_any ⟨o, a', b'⟩ _ (HL.out.below hbw)).mono ?_
        rintro e w3 ⟨rfl, hb3⟩
        rw [HM.out]
        go_wp2
        go_roundw
        case rel => exact ⟨k + 1, by omega, by go_num, hbel.trans (hb3.mono hbel.size)⟩
        case measure => simp [intOf]; omega
      · go_wp2_with fail
        refine (pack_any _ _ _ (HL.out.below hbw) (HS.out.below hbel)).mono ?_
        rintro e w3 ⟨u3, rfl, ho3, hb3⟩
        have e1 : packE m = 0 := by simp [packE, HG1.out]; omega
        have e2 : packB m = l := by rw [packB_ok (by omega) HG1.out]; exact HG2.out
        have hbz := hbw.trans (hb3.mono hbw.size)
        have s1 := (Sees.of_owns ho3).strI
        have s2 := (HV.out.below hbz).strI
        rw [e2] at s1
        rw [e1]
        clear ho3 hb3 e1 e2
        go_wp2
        go_ret
        exact ⟨rfl, hbz⟩
  · have e1 := up_err l he
    have he' : ((up l).2 != 0) = true := by simpa using he
    rw [e1] at ho2
    obtain ⟨ua, uc, hu, _, _⟩ := owns_slice ho2
    subst hu
    clear ho2 he e1
    generalize (up l).2 = y at *
    go_wp2
    go_ret
    exact ⟨rfl, hb12⟩
end Go.Proofs.YtfhjlpkejmjigaaDoor
