/-
  What the document's test of a configuration returns, whatever it is given, and that nothing that was there is written; that it is what the program's returns.
-/
import Derived.Test.YtfdoejdnhogepaaTRefE
namespace Go.Proofs.Ytfdoejdnhogepaa
open Go.RowKit
set_option linter.unusedVariables false

theorem allN_all {α : Type} (p : α → Bool) (z : α) (l : List α) : allN (fun i => p (l.getD i z)) l.length = l.all p := by
  rw [Bool.eq_iff_iff, allN_iff, List.all_eq_true]
  constructor
  · intro h x hx
    obtain ⟨i, hi, rfl⟩ := mem_getD (d := z) hx
    exact h i hi
  · intro h i hi
    exact h _ (getD_mem hi)

theorem win_same (fr : Int) (n : Nat) (l : List Wn) : ∀ e, 0 ≤ e → rwinF fr n e l = (l.all (winB fr n) && orderF e l) := by
  induction l with
  | nil => intro e _; rfl
  | cons v l ih =>
    intro e he
    rw [rwinF, orderF, List.all_cons, Bool.eq_iff_iff]
    by_cases hs : v.st < e
    · rw [if_pos hs]; simp [inB]; omega
    · rw [if_neg hs]
      by_cases hl : 1 ≤ v.ln
      · rw [ih (v.st + v.ln) (by omega)]
        simp only [winB, inB, Bool.and_eq_true, decide_eq_true_eq]
        constructor
        · rintro ⟨⟨⟨⟨h1, h2⟩, h3⟩, h4⟩, h5, h6⟩
          exact ⟨⟨⟨⟨h1, by omega⟩, by omega⟩, h5⟩, h6⟩
        · rintro ⟨⟨⟨⟨h1, h2⟩, h3⟩, h5⟩, h6⟩
          exact ⟨⟨⟨⟨h1, by omega⟩, by omega⟩, by omega⟩, h5, h6⟩
      · simp only [winB, inB, Bool.and_eq_true, decide_eq_true_eq]
        constructor
        · rintro ⟨⟨⟨⟨h1, h2⟩, h3⟩, h4⟩, h5⟩; omega
        · rintro ⟨⟨⟨⟨h1, h2⟩, h3⟩, h5⟩, h6⟩; omega

theorem eqE_comm (a b : En) : eqE a b = eqE b a := by
  unfold eqE
  rw [Bool.eq_iff_iff, decide_eq_true_eq, decide_eq_true_eq]
  exact ⟨fun ⟨h1, h2, h3⟩ => ⟨h1.symm, h2.symm, h3.symm⟩, fun ⟨h1, h2, h3⟩ => ⟨h1.symm, h2.symm, h3.symm⟩⟩
theorem eqE_self (a : En) : eqE a a = true := by simp [eqE]

theorem count_one (L : List En) : (∀ e ∈ L, L.countP (eqE e) ≤ 1) ↔ L.Pairwise (fun a b => eqE a b = false) := by
  induction L with
  | nil => simp
  | cons a L ih =>
    rw [List.pairwise_cons]
    constructor
    · intro h
      refine ⟨fun b hb => ?_, ih.1 (fun e he => ?_)⟩
      · have h1 := h a (by simp)
        rw [List.countP_cons, if_pos (eqE_self a)] at h1
        have h0 : L.countP (eqE a) = 0 := by omega
        rw [List.countP_eq_zero] at h0
        simpa using h0 b hb
      · have h1 := h e (by simp [he])
        rw [List.countP_cons] at h1
        omega
    · rintro ⟨h1, h2⟩ e he
      rw [List.countP_cons]
      rcases List.mem_cons.1 he with rfl | he
      · rw [if_pos (eqE_self e)]
        have : L.countP (eqE e) = 0 := by rw [List.countP_eq_zero]; intro b hb; rw [h1 b hb]; simp
        omega
      · have := ih.2 h2 e he
        rw [if_neg (by rw [eqE_comm, h1 e he]; simp)]
        omega

theorem apart_pair (l : List Ch) : ∀ tk, (∀ x ∈ l, eqE (fromE x) (toE x) = false) →
    (apartF tk l = true ↔ (∀ e ∈ endL7 l, memE tk e = false) ∧ (endL7 l).Pairwise (fun a b => eqE a b = false)) := by
  induction l with
  | nil => intro tk _; simp [apartF, endL7]
  | cons c l ih =>
    intro tk h
    have he : endL7 (c :: l) = fromE c :: toE c :: endL7 l := by simp [endL7]
    have hm : ∀ e, memE (tk ++ [fromE c, toE c]) e = (memE tk e || (eqE e (fromE c) || eqE e (toE c))) := fun e => by simp [memE]
    rw [apartF, he, List.pairwise_cons, List.pairwise_cons]
    have hc := h c (by simp)
    have ihh := ih (tk ++ [fromE c, toE c]) (fun x hx => h x (by simp [hx]))
    by_cases h1 : memE tk (fromE c) = true
    · rw [if_pos h1]
      constructor
      · intro h; cases h
      · rintro ⟨h2, _⟩; have := h2 (fromE c) (by simp); rw [h1] at this; cases this
    · rw [if_neg h1]
      by_cases h2 : memE tk (toE c) = true
      · rw [if_pos h2]
        constructor
        · intro h; cases h
        · rintro ⟨h3, _⟩; have := h3 (toE c) (by simp); rw [h2] at this; cases this
      · rw [if_neg h2, ihh]
        constructor
        · rintro ⟨h3, h4⟩
          have h5 : ∀ e ∈ endL7 l, memE tk e = false ∧ eqE e (fromE c) = false ∧ eqE e (toE c) = false := fun e he => by
            have := h3 e he; rw [hm] at this; simpa using this
          refine ⟨fun e he => ?_, fun b hb => ?_, fun b hb => ?_, h4⟩
          · rcases List.mem_cons.1 he with rfl | he
            · simpa using h1
            · rcases List.mem_cons.1 he with rfl | he
              · simpa using h2
              · exact (h5 e he).1
          · rcases List.mem_cons.1 hb with rfl | hb
            · exact hc
            · rw [eqE_comm]; exact (h5 b hb).2.1
          · rw [eqE_comm]; exact (h5 b hb).2.2
        · rintro ⟨h3, h4, h5, h6⟩
          refine ⟨fun e he => ?_, h6⟩
          rw [hm, h3 e (by simp [he]), eqE_comm e, h4 e (by simp [he]), eqE_comm e, h5 e he]
          rfl

theorem ch_same (pa : List Pt) (l : List Ch) : l.all (rchanB pa l) = (l.all (chanC pa) && apartF [] l) := by
  rcases hc : l.all (chanC pa)
  · rw [Bool.false_and]
    rw [List.all_eq_false] at hc ⊢
    obtain ⟨x, hx, h⟩ := hc
    refine ⟨x, hx, fun h' => h ?_⟩
    simp only [rchanB, chanC, Bool.and_eq_true] at h' ⊢
    exact ⟨⟨h'.1.1.2, h'.1.1.1.1⟩, h'.1.1.1.2⟩
  · rw [Bool.true_and, Bool.eq_iff_iff]
    rw [List.all_eq_true] at hc
    have hne : ∀ x ∈ l, eqE (fromE x) (toE x) = false := fun x hx => by
      have := hc x hx
      simp only [chanC, Bool.and_eq_true, decide_eq_true_eq] at this
      simp only [eqE, fromE, toE, decide_eq_false_iff_not]
      exact fun h => this.1.1 h.2.1
    rw [apart_pair l [] hne, ← count_one, List.all_eq_true]
    constructor
    · intro h
      refine ⟨fun e _ => rfl, fun e he => ?_⟩
      obtain ⟨x, hx, hex⟩ := List.mem_flatMap.1 he
      have := h x hx
      simp only [rchanB, Bool.and_eq_true, decide_eq_true_eq] at this
      simp at hex
      rcases hex with rfl | rfl
      · exact this.1.2
      · exact this.2
    · rintro ⟨_, h⟩ x hx
      have hk := hc x hx
      simp only [rchanB, chanC, Bool.and_eq_true, decide_eq_true_eq] at hk ⊢
      exact ⟨⟨⟨⟨hk.1.2, hk.2⟩, hk.1.1⟩, h _ (List.mem_flatMap.2 ⟨x, hx, by simp⟩)⟩, h _ (List.mem_flatMap.2 ⟨x, hx, by simp⟩)⟩

theorem may_form (c : Cf) : mayC c = (inB 1 4096 c.fr && inB 0 c.fr c.sw && (decide ((c.li.length : Int) ≤ 8) && allN (fun i => inB 0 ((c.pa.length : Int) - 1) (c.li.getD i 0)) c.li.length) && (inB 1 4 c.pa.length && allN (fun i => partB (c.pa.getD i Pt.zero)) c.pa.length) && (inB 1 12 c.wi.length && rwinF c.fr c.pa.length 0 c.wi) && (inB 0 8 c.ch.length && allN (fun i => rchanB c.pa c.ch (c.ch.getD i Ch.zero)) c.ch.length)) := by
  have h1 : decide ((c.li.length : Int) ≤ 8) = inB 0 8 c.li.length := by simp [inB]
  unfold mayC
  rw [h1, allN_all (rchanB c.pa c.ch), ch_same, win_same _ _ _ _ (Int.le_refl 0), allN_all (winB c.fr c.pa.length), allN_all (chanC c.pa)]
  ac_rfl

set_option maxRecDepth 100000 in
set_option maxHeartbeats 4000000 in
theorem rmayc_any (q : Cv) (c : Cf) (w : World) (hS : CfAt w q c) (hf : c.fit) :
    Calls Try.prog 19 #[q.val] w fun e w' => e = .returned (.bool (mayC c)) ∧ Below w.heap.size w w' := by
  obtain ⟨fr, sw, ⟨a1, n1, k1⟩, ⟨a2, n2, k2⟩, ⟨a3, n3, k3⟩, ⟨a4, n4, k4⟩⟩ := q
  obtain ⟨qs, hq, hln, hpt⟩ := hS.pa
  obtain ⟨al, cl, hval, hl1, hl2, hlc⟩ := hq.form
  simp only [Sl.val, Value.slice.injEq] at hval
  obtain ⟨rfl, hn2, rfl⟩ := hval
  unfold maxLen at hl2
  have hmf := may_form c
  rw [← hln, ← hn2] at hmf
  rw [← hn2] at hl1 hlc
  have HNL := hid (show n2 = c.pa.length by omega)
  have HC := hid hlc
  have HPT := hid (show ∀ i, i < n2 → PtAt w (qs.getD i Pv.zero) (c.pa.getD i Pt.zero) from fun i hi => hpt i (by omega))
  have HFR := hid (show fr = c.fr from hS.fr)
  have HSW := hid (show sw = c.sw from hS.sw)
  have HF := hid (show ∀ i, i < n2 → ∀ r ∈ (c.pa.getD i Pt.zero).rg, r.fit from fun i hi => hf.2 _ (getD_mem (by omega)))
  have HLI := hid (show Sees w .i64 (.slice a1 n1 k1) c.li from hS.li)
  rw [← HFR.out, ← HSW.out] at hmf
  obtain ⟨r1, hr1⟩ : ∃ r, inB 1 4096 fr = r := ⟨_, rfl⟩
  obtain ⟨r2, hr2⟩ : ∃ r, inB 0 fr sw = r := ⟨_, rfl⟩
  obtain ⟨r3, hr3⟩ : ∃ r, (decide ((c.li.length : Int) ≤ 8) && allN (fun i => inB 0 ((n2 : Int) - 1) (c.li.getD i 0)) c.li.length) = r := ⟨_, rfl⟩
  obtain ⟨r5, hr5⟩ : ∃ r, (inB 1 12 c.wi.length && rwinF fr n2 0 c.wi) = r := ⟨_, rfl⟩
  obtain ⟨r6, hr6⟩ : ∃ r, (inB 0 8 c.ch.length && allN (fun i => rchanB c.pa c.ch (c.ch.getD i Ch.zero)) c.ch.length) = r := ⟨_, rfl⟩
  rw [hr1, hr2, hr3, hr5, hr6] at hmf
  obtain ⟨R, hR⟩ : ∃ r, mayC c = r := ⟨_, rfl⟩
  rw [hR] at hmf ⊢
  have HR := hid hmf
  have R1 := hid hr1
  have R2 := hid hr2
  have R3 := hid hr3
  have R5 := hid (show (inB 1 12 c.wi.length && rwinF c.fr c.pa.length 0 c.wi) = r5 by rw [← HFR.out, ← HNL.out]; exact hr5)
  have R6 := hid hr6
  have HS := hid hS
  have hB : Below w.heap.size w (w.alloc (.cells #[.int .i64 fr, .int .i64 sw, .slice a1 n1 k1, .slice a2 n2 k2, .slice a3 n3 k3, .slice a4 n4 k4] 27)) := (Below.refl _ _).alloc (Nat.le_refl _) _
  have HB := hid hB
  have HX := hid (BoxAt.new w 27 #[.int .i64 fr, .int .i64 sw, .slice a1 n1 k1, .slice a2 n2 k2, .slice a3 n3 k3, .slice a4 n4 k4])
  clear hB hr1 hr2 hr3 hr5 hr6 hmf hR hS hf hpt hq hlc hln hn2
  unfold Cv.val
  simp only
  go_enter Try.func19, Try.ntmps19
  go_wp2_with fail
  refine (rin_any fr 1 4096 _).mono ?_
  rintro _ _ ⟨rfl, rfl⟩
  rw [R1.out]
  go_wp2_with fail
  refine (rin_any sw 0 fr _).mono ?_
  rintro _ _ ⟨rfl, rfl⟩
  rw [R2.out]
  go_wp2_with fail
  refine (rnumbers_any _ c.li 8 0 ((n2 : Int) - 1) _ (HLI.out.below HB.out)).mono ?_
  rintro _ _ ⟨rfl, rfl⟩
  rw [R3.out]
  cases r1
  · have HN := hid (show R = false by rw [HR.out]; simp)
    clear HR HC HPT HF
    go_wp2
    go_ret
    exact ⟨by rw [HN.out]; rfl, HB.out⟩
  cases r2
  · have HN := hid (show R = false by rw [HR.out]; simp)
    clear HR HC HPT HF
    go_wp2
    go_ret
    exact ⟨by rw [HN.out]; rfl, HB.out⟩
  cases r3
  · have HN := hid (show R = false by rw [HR.out]; simp)
    clear HR HC HPT HF
    go_wp2
    go_ret
    exact ⟨by rw [HN.out]; rfl, HB.out⟩
  by_cases g1 : (n2 : Int) < 1
  · have HN := hid (show R = false by rw [HR.out, show inB 1 4 (n2 : Int) = false by simp [inB]; omega]; simp)
    clear HR HC HPT HF
    go_wp2
    go_ret
    exact ⟨by rw [HN.out]; rfl, HB.out⟩
  by_cases g2 : (4 : Int) < (n2 : Int)
  · have HN := hid (show R = false by rw [HR.out, show inB 1 4 (n2 : Int) = false by simp [inB]; omega]; simp)
    clear HR HC HPT HF
    go_wp2
    go_ret
    exact ⟨by rw [HN.out]; rfl, HB.out⟩
  replace HR := hid (show R = (allN (fun i => partB (c.pa.getD i Pt.zero)) n2 && r5 && r6) by rw [HR.out, show inB 1 4 (n2 : Int) = true by simp [inB]; omega]; rfl)
  have hf1 : 1 ≤ fr ∧ fr ≤ 4096 := by simpa [inB] using R1.out
  have HF1 := hid hf1
  clear hf1 R1 R2 R3 HLI
  go_wp2
  generalize w.alloc (.cells #[.int .i64 fr, .int .i64 sw, .slice a1 n1 k1, .slice a2 n2 k2, .slice a3 n3 k3, .slice a4 n4 k4] 27) = w0 at *
  go_loopw [6] (fun t wc => ∃ i : Nat, i ≤ n2 ∧ t = .int .i64 i ∧ (∀ j, j < i → partB (c.pa.getD j Pt.zero) = true) ∧ Below w0.heap.size w0 wc) (fun t _ => n2 - (intOf t).toNat)
  case atStart => exact ⟨0, by omega, rfl, by intro j hj; omega, Below.refl _ _⟩
  case round =>
    obtain ⟨i, hi, rfl, hgood, hbel⟩ := hrel
    have HG := hid hgood
    clear hgood
    have e3 := ((HX.out.belowAll hbel).cell 3).trans rfl
    by_cases hlt : i < n2
    · obtain ⟨bb, off, rfl, hbw, hcell⟩ := HC.out (by omega)
      have HWr := hid (HB.out.trans (hbel.mono HB.out.size))
      have c0 := (HWr.out.cell (by exact hbw)).trans (hcell i hlt 0 (by decide))
      have c1 := (HWr.out.cell (by exact hbw)).trans (hcell i hlt 1 (by decide))
      have c2 := (HWr.out.cell (by exact hbw)).trans (hcell i hlt 2 (by decide))
      have c3 := (HWr.out.cell (by exact hbw)).trans (hcell i hlt 3 (by decide))
      have c4 := (HWr.out.cell (by exact hbw)).trans (hcell i hlt 4 (by decide))
      have c5 := (HWr.out.cell (by exact hbw)).trans (hcell i hlt 5 (by decide))
      have c6 := (HWr.out.cell (by exact hbw)).trans (hcell i hlt 6 (by decide))
      have c7 := (HWr.out.cell (by exact hbw)).trans (hcell i hlt 7 (by decide))
      have c8 := (HWr.out.cell (by exact hbw)).trans (hcell i hlt 8 (by decide))
      have c9 := (HWr.out.cell (by exact hbw)).trans (hcell i hlt 9 (by decide))
      have c10 := (HWr.out.cell (by exact hbw)).trans (hcell i hlt 10 (by decide))
      have HPi := hid ((HPT.out i hlt).below HWr.out)
      have HFi := hid (HF.out i hlt)
      have HNo := hid (show partB (c.pa.getD i Pt.zero) = false → R = false from fun h => by rw [HR.out, allN_no _ _ i hlt h]; rfl)
      have HGo := hid (show partB (c.pa.getD i Pt.zero) = true → ∀ j, j < i + 1 → partB (c.pa.getD j Pt.zero) = true by
        intro h j hj
        by_cases e : j = i
        · subst e; exact h
        · exact HG.out j (by omega))
      clear hcell HC HG HPT HF HR
      generalize qs.getD i Pv.zero = x at *
      obtain ⟨v0, ⟨v1a, v1n, v1c⟩, ⟨v2a, v2n, v2c⟩, v3, ⟨v4a, v4n, v4c⟩, ⟨v5a, v5n, v5c⟩, v6, ⟨v7a, v7n, v7c⟩, ⟨v8a, v8n, v8c⟩, v9, ⟨v10a, v10n, v10c⟩⟩ := x
      simp only [Pv.cells, List.getD_cons_zero, List.getD_cons_succ, Nat.add_zero] at c0 c1 c2 c3 c4 c5 c6 c7 c8 c9 c10
      go_wp2_with fail
      refine (rpart_any ⟨v0, ⟨v1a, v1n, v1c⟩, ⟨v2a, v2n, v2c⟩, v3, ⟨v4a, v4n, v4c⟩, ⟨v5a, v5n, v5c⟩, v6, ⟨v7a, v7n, v7c⟩, ⟨v8a, v8n, v8c⟩, v9, ⟨v10a, v10n, v10c⟩⟩ _ _ HPi.out HFi.out).mono ?_
      rintro e w2 ⟨rfl, hb2⟩
      have hB2 : Below w0.heap.size w0 w2 := hbel.trans (hb2.mono hbel.size)
      clear hb2 c0 c1 c2 c3 c4 c5 c6 c7 c8 c9 c10 e3
      rcases hpi : partB (c.pa.getD i Pt.zero)
      · have HN := hid (HNo.out hpi)
        clear HNo HGo hpi
        go_wp2
        go_ret
        exact ⟨by rw [HN.out]; rfl, HB.out.trans (hB2.mono HB.out.size)⟩
      · have HN := hid (HGo.out hpi)
        clear HNo HGo hpi
        go_wp2
        go_roundw
        case rel => exact ⟨i + 1, by omega, by go_num, HN.out, hB2⟩
        case measure => simp [intOf]; omega
    · replace HR := hid (show R = (r5 && r6) by rw [HR.out, allN_yes _ _ (fun j hj => HG.out j (by omega))]; rfl)
      clear HG HC HPT HF
      have e0 := ((HX.out.belowAll hbel).cell 0).trans rfl
      have e1 := ((HX.out.belowAll hbel).cell 1).trans rfl
      have e2 := ((HX.out.belowAll hbel).cell 2).trans rfl
      have e4 := ((HX.out.belowAll hbel).cell 4).trans rfl
      have e5 := ((HX.out.belowAll hbel).cell 5).trans rfl
      go_wp2_with fail
      refine (rwindows_any ⟨fr, sw, ⟨a1, n1, k1⟩, ⟨a2, n2, k2⟩, ⟨a3, n3, k3⟩, ⟨a4, n4, k4⟩⟩ c _ (HS.out.below (HB.out.trans (hbel.mono HB.out.size))) (by rw [← HFR.out]; exact HF1.out.1) (by rw [← HFR.out]; exact HF1.out.2)).mono ?_
      rintro e w5 ⟨rfl, hb5⟩
      rw [R5.out]
      have hb5' := hbel.trans (hb5.mono hbel.size)
      clear e0 e1 e2 e3 e4 e5 hb5
      have e0 := ((HX.out.belowAll hb5').cell 0).trans rfl
      have e1 := ((HX.out.belowAll hb5').cell 1).trans rfl
      have e2 := ((HX.out.belowAll hb5').cell 2).trans rfl
      have e3 := ((HX.out.belowAll hb5').cell 3).trans rfl
      have e4 := ((HX.out.belowAll hb5').cell 4).trans rfl
      have e5 := ((HX.out.belowAll hb5').cell 5).trans rfl
      go_wp2_with fail
      refine (rchannels_any ⟨fr, sw, ⟨a1, n1, k1⟩, ⟨a2, n2, k2⟩, ⟨a3, n3, k3⟩, ⟨a4, n4, k4⟩⟩ c _ (HS.out.below (HB.out.trans (hb5'.mono HB.out.size)))).mono ?_
      rintro e w6 ⟨rfl, hb6⟩
      rw [R6.out]
      have hb6' := hb5'.trans (hb6.mono hb5'.size)
      clear e0 e1 e2 e3 e4 e5 hb6
      cases r5
      · have HN := hid (show R = false by rw [HR.out]; rfl)
        clear HR
        go_wp2
        go_ret
        exact ⟨by rw [HN.out]; rfl, HB.out.trans (hb6'.mono HB.out.size)⟩
      · have HN := hid (show R = r6 by rw [HR.out]; rfl)
        clear HR
        go_wp2
        go_ret
        exact ⟨by rw [HN.out]; rfl, HB.out.trans (hb6'.mono HB.out.size)⟩

end Go.Proofs.Ytfdoejdnhogepaa
