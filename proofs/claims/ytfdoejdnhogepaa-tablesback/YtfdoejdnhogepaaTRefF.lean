/-
  What the document's counts of ports and ends, its tests of windows, of channels and of a configuration return, whatever they are given, and that nothing that was there is written; that they are what the program's return.
-/
import Derived.Test.YtfdoejdnhogepaaTRefB
import Derived.Test.YtfdoejdnhogepaaTMay
import Derived.Deep.RegionHeld3
namespace Go.Proofs.Ytfdoejdnhogepaa
open Go.RowKit
set_option linter.unusedVariables false


def rportsN (pa : List Pt) (p : Int) (qu : Bool) : Nat := if 0 ≤ p ∧ p < pa.length then portsC pa ⟨qu, p, 0⟩ else 0
theorem ports_has (pa : List Pt) (e : En) : inB 0 ((rportsN pa e.p e.qu : Int) - 1) e.o = hasEndC pa e := by
  unfold rportsN hasEndC
  have he : portsC pa ⟨e.qu, e.p, 0⟩ = portsC pa e := rfl
  by_cases h : 0 ≤ e.p ∧ e.p < pa.length
  · rw [if_pos h, he]
    have : inB 0 ((pa.length : Int) - 1) e.p = true := by simp [inB]; omega
    rw [this, Bool.true_and]
  · rw [if_neg h]
    have : inB 0 ((pa.length : Int) - 1) e.p = false := by simp [inB]; omega
    rw [this, Bool.false_and]
    simp [inB]; omega

set_option maxRecDepth 100000 in
set_option maxHeartbeats 1600000 in
theorem rports_any (q : Cv) (c : Cf) (p : Int) (qu : Bool) (w : World) (hS : CfAt w q c) :
    Calls Try.prog 74 #[q.val, .int .i64 p, .bool qu] w fun e w' => e = .returned (.int .i64 (rportsN c.pa p qu)) ∧ Below w.heap.size w w' := by
  obtain ⟨fr, sw, ⟨a1, n1, k1⟩, ⟨a2, n2, k2⟩, ⟨a3, n3, k3⟩, ⟨a4, n4, k4⟩⟩ := q
  obtain ⟨qs, hq, hln, hpt⟩ := hS.pa
  obtain ⟨al, cl, hval, hl1, hl2, hlc⟩ := hq.form
  simp only [Sl.val, Value.slice.injEq] at hval
  obtain ⟨rfl, hn2, rfl⟩ := hval
  unfold maxLen at hl2
  rw [← hn2] at hl1 hlc
  have HNL := hid (show n2 = c.pa.length by omega)
  have HC := hid hlc
  have HPT := hid hpt
  have HR := hid (show rportsN c.pa p qu = if 0 ≤ p ∧ p < (n2 : Int) then portsC c.pa ⟨qu, p, 0⟩ else 0 by rw [HNL.out]; rfl)
  generalize rportsN c.pa p qu = R at *
  have hB : Below w.heap.size w (w.alloc (.cells #[.int .i64 fr, .int .i64 sw, .slice a1 n1 k1, .slice a2 n2 k2, .slice a3 n3 k3, .slice a4 n4 k4] 27)) := (Below.refl _ _).alloc (Nat.le_refl _) _
  have HB := hid hB
  clear hlc hS hpt hq hln hn2
  unfold Cv.val
  simp only
  go_enter Try.func74, Try.ntmps74
  by_cases h0 : p < 0
  · have HE := hid (show R = 0 by rw [HR.out, if_neg (by omega)])
    clear HC HPT HR
    go_wp2
    go_ret
    exact ⟨by rw [HE.out]; rfl, HB.out⟩
  by_cases h1 : (n2 : Int) ≤ p
  · have HE := hid (show R = 0 by rw [HR.out, if_neg (by omega)])
    clear HC HPT HR
    go_wp2
    go_ret
    exact ⟨by rw [HE.out]; rfl, HB.out⟩
  obtain ⟨pn, hpn⟩ : ∃ k : Nat, p = (k : Int) := ⟨p.toNat, by omega⟩
  subst hpn
  have hlt : pn < n2 := by omega
  obtain ⟨b, off, rfl, hbw, hcell⟩ := HC.out (by omega)
  have hx := HPT.out pn (by have := HNL.out; omega)
  obtain ⟨s7, hs7⟩ : ∃ s, (qs.getD pn Pv.zero).v7 = s := ⟨_, rfl⟩
  obtain ⟨s8, hs8⟩ : ∃ s, (qs.getD pn Pv.zero).v8 = s := ⟨_, rfl⟩
  have c7 := (hB.cell (by exact hbw)).trans (hcell pn hlt 7 (by decide))
  have c8 := (hB.cell (by exact hbw)).trans (hcell pn hlt 8 (by decide))
  simp only [Pv.cells, List.getD_cons_zero, List.getD_cons_succ, hs7] at c7
  simp only [Pv.cells, List.getD_cons_zero, List.getD_cons_succ, hs8] at c8
  have hsa := hx.sa.n_eq.1
  have hqu := hx.qu.n_eq.1
  rw [hs7] at hsa
  rw [hs8] at hqu
  obtain ⟨s7a, s7n, s7c⟩ := s7
  obtain ⟨s8a, s8n, s8c⟩ := s8
  have HE := hid (show R = if qu then s8n else s7n by
    rw [HR.out, if_pos (by omega)]
    unfold portsC
    simp only [Int.toNat_natCast]
    simp only at hsa hqu
    rw [hsa, hqu])
  clear hcell HC HPT HR hx hs7 hs8 hsa hqu hB
  simp only at c7 c8
  cases qu
  · go_wp2
    go_ret
    exact ⟨by rw [HE.out]; rfl, HB.out⟩
  · go_wp2
    go_ret
    exact ⟨by rw [HE.out]; rfl, HB.out⟩

def endL7 (l : List Ch) : List En := l.flatMap fun x => [fromE x, toE x]
def endsN (l : List Ch) (e : En) : Nat := (endL7 l).countP (eqE e)
theorem two_eq (p o x y : Int) : (p = x ∧ o = y) ↔ (x == p && y == o) = true := by
  rw [Bool.and_eq_true, beq_iff_eq, beq_iff_eq]
  exact ⟨fun h => ⟨h.1.symm, h.2.symm⟩, fun h => ⟨h.1.symm, h.2.symm⟩⟩
theorem endsN_snoc (l : List Ch) (e : En) (i : Nat) (hi : i < l.length) :
    endsN (l.take (i + 1)) e = endsN (l.take i) e + (if eqE e (fromE (l.getD i Ch.zero)) then 1 else 0) + (if eqE e (toE (l.getD i Ch.zero)) then 1 else 0) := by
  have : l.take (i + 1) = l.take i ++ [l.getD i Ch.zero] := by
    rw [List.take_add_one, List.getElem?_eq_getElem hi]; simp [List.getD, List.getElem?_eq_getElem hi]
  rw [this]
  simp only [endsN, endL7, List.flatMap_append, List.countP_append, List.flatMap_cons, List.flatMap_nil, List.append_nil, List.countP_cons, List.countP_nil]
  omega
theorem endsN_le (l : List Ch) (e : En) (i : Nat) : endsN (l.take i) e ≤ 2 * i := by
  have h1 : endsN (l.take i) e ≤ (endL7 (l.take i)).length := List.countP_le_length
  have h2 : ∀ m : List Ch, (endL7 m).length = 2 * m.length := by
    intro m
    induction m with
    | nil => rfl
    | cons x m ih => simp [endL7] at ih ⊢; omega
  rw [h2] at h1
  have h3 : (l.take i).length ≤ i := List.length_take_le _ _
  omega

set_option maxRecDepth 100000 in
set_option maxHeartbeats 4000000 in
theorem rends_any (q : Cv) (c : Cf) (qu : Bool) (p o : Int) (w : World) (hS : CfAt w q c) (hlen : c.ch.length ≤ 100000) :
    Calls Try.prog 75 #[q.val, .bool qu, .int .i64 p, .int .i64 o] w fun e w' => e = .returned (.int .i64 (endsN c.ch ⟨qu, p, o⟩)) ∧ Below w.heap.size w w' := by
  obtain ⟨fr, sw, ⟨a1, n1, k1⟩, ⟨a2, n2, k2⟩, ⟨a3, n3, k3⟩, ⟨a4, n4, k4⟩⟩ := q
  obtain ⟨al, cl, hval, hl1, hl2, hlc⟩ := hS.ch.form
  simp only [Sl.val, Value.slice.injEq] at hval
  obtain ⟨rfl, rfl, rfl⟩ := hval
  unfold maxLen at hl2
  have HC := hid hlc
  clear hS hlc
  generalize c.ch = l at *
  have hB : Below w.heap.size w (w.alloc (.cells #[.int .i64 fr, .int .i64 sw, .slice a1 n1 k1, .slice a2 n2 k2, .slice a3 n3 k3, .slice a4 l.length k4] 27)) := (Below.refl _ _).alloc (Nat.le_refl _) _
  have HB := hid hB
  have HX := hid (BoxAt.new w 27 #[.int .i64 fr, .int .i64 sw, .slice a1 n1 k1, .slice a2 n2 k2, .slice a3 n3 k3, .slice a4 l.length k4])
  clear hB
  unfold Cv.val
  simp only
  go_enter Try.func75, Try.ntmps75
  go_wp2
  generalize w.alloc (.cells #[.int .i64 fr, .int .i64 sw, .slice a1 n1 k1, .slice a2 n2 k2, .slice a3 n3 k3, .slice a4 l.length k4] 27) = w0 at *
  go_loopw [9, 10] (fun s t wc => ∃ i : Nat, i ≤ l.length ∧ t = .int .i64 i ∧ s = .int .i64 (endsN (l.take i) ⟨qu, p, o⟩) ∧ Below w0.heap.size w0 wc) (fun _ t _ => l.length - (intOf t).toNat)
  case atStart => exact ⟨0, by omega, rfl, rfl, Below.refl _ _⟩
  case round =>
    obtain ⟨i, hi, rfl, rfl, hbel⟩ := hrel
    have e5 := ((HX.out.belowAll hbel).cell 5).trans rfl
    by_cases hlt : i < l.length
    · obtain ⟨bb, off, rfl, hbw, hcell⟩ := HC.out (by omega)
      have HWr := hid (HB.out.trans (hbel.mono HB.out.size))
      have c0 := (HWr.out.cell (by exact hbw)).trans (hcell i hlt 0 (by decide))
      have c1 := (HWr.out.cell (by exact hbw)).trans (hcell i hlt 1 (by decide))
      have c2 := (HWr.out.cell (by exact hbw)).trans (hcell i hlt 2 (by decide))
      have c3 := (HWr.out.cell (by exact hbw)).trans (hcell i hlt 3 (by decide))
      have c4 := (HWr.out.cell (by exact hbw)).trans (hcell i hlt 4 (by decide))
      have HS := hid (endsN_snoc l ⟨qu, p, o⟩ i hlt)
      have hle := endsN_le l ⟨qu, p, o⟩ i
      have hle2 : endsN (l.take i) ⟨qu, p, o⟩ ≤ 200000 := by omega
      clear hle hcell HC
      generalize l.getD i Ch.zero = x at *
      obtain ⟨xq, xf, xa, xt, xb⟩ := x
      simp only [Ch.cells, List.getD_cons_zero, List.getD_cons_succ, Nat.add_zero] at c0 c1 c2 c3 c4
      simp only [fromE, toE, eqE] at HS
      have HA := hid (hbel.alloc hbel.size (.cells #[.bool xq, .int .i64 xf, .int .i64 xa, .int .i64 xt, .int .i64 xb] 41))
      obtain ⟨N1, hN1⟩ : ∃ n, endsN (l.take (i + 1)) ⟨qu, p, o⟩ = n := ⟨_, rfl⟩
      rw [hN1] at HS
      have HN1 := hid hN1
      clear hN1
      generalize endsN (l.take i) ⟨qu, p, o⟩ = N0 at *
      rcases hxq : (xq == qu)
      · have HN := hid (show N1 = N0 by
          have : ¬ qu = xq := fun e => by simp [e] at hxq
          rw [HS.out]; simp [this])
        clear HS
        go_wp2
        go_roundw
        case rel => exact ⟨i + 1, by omega, by go_num, by rw [HN1.out, HN.out], HA.out⟩
        case measure => simp [intOf]; omega
      · have hq2 : qu = xq := by simpa using Eq.symm (eq_of_beq hxq)
        replace HS := hid (show N1 = N0 + (if p = xf ∧ o = xa then 1 else 0) + (if p = xt ∧ o = xb then 1 else 0) by rw [HS.out]; simp [hq2])
        clear hq2
        rcases hf : (xf == p) <;> rcases ha : (xa == o) <;> rcases ht : (xt == p) <;> rcases hb : (xb == o)
        all_goals
          have hN : N1 = N0 + (if (xf == p && xa == o) = true then 1 else 0) + (if (xt == p && xb == o) = true then 1 else 0) := by
            have e1 : (p = xf ∧ o = xa) ↔ (xf == p && xa == o) = true := two_eq _ _ _ _
            have e2 : (p = xt ∧ o = xb) ↔ (xt == p && xb == o) = true := two_eq _ _ _ _
            rw [HS.out]; simp only [e1, e2]
          simp only [hf, ha, ht, hb, Bool.and_true, Bool.and_false, Bool.false_eq_true, if_true, if_false, Nat.add_zero] at hN
          have HN := hid hN
          clear hN HS
          go_wp2
          go_roundw
          case rel => exact ⟨i + 1, by omega, by go_num, by have h := HN.out; rw [HN1.out]; congr 1; omega, HA.out⟩
          case measure => simp [intOf]; omega
    · have hkl : l.take i = l := List.take_of_length_le (by omega)
      have HE := hid hkl
      clear hkl HC
      go_wp2
      go_ret
      exact ⟨by rw [HE.out]; rfl, HB.out.trans (hbel.mono HB.out.size)⟩


theorem rports_le {w : World} {q : Cv} {c : Cf} (hS : CfAt w q c) (p : Int) (qu : Bool) : rportsN c.pa p qu ≤ 9223372036854775807 := by
  unfold rportsN
  split
  · rename_i h
    obtain ⟨qs, hq, hln, hpt⟩ := hS.pa
    have hx := hpt p.toNat (by omega)
    have h1 := hx.sa.n_eq
    have h2 := hx.qu.n_eq
    unfold portsC
    split
    · simp only; omega
    · simp only; omega
  · omega

def rchanB (pa : List Pt) (l : List Ch) (x : Ch) : Bool := hasEndC pa (fromE x) && hasEndC pa (toE x) && decide (x.f ≠ x.t) && decide (endsN l (fromE x) ≤ 1) && decide (endsN l (toE x) ≤ 1)

set_option maxRecDepth 100000 in
set_option maxHeartbeats 4000000 in
theorem rchannels_any (q : Cv) (c : Cf) (w : World) (hS : CfAt w q c) :
    Calls Try.prog 41 #[q.val] w fun e w' => e = .returned (.bool (inB 0 8 c.ch.length && allN (fun i => rchanB c.pa c.ch (c.ch.getD i Ch.zero)) c.ch.length)) ∧ Below w.heap.size w w' := by
  obtain ⟨fr, sw, ⟨a1, n1, k1⟩, ⟨a2, n2, k2⟩, ⟨a3, n3, k3⟩, ⟨a4, n4, k4⟩⟩ := q
  obtain ⟨al, cl, hval, hl1, hl2, hlc⟩ := hS.ch.form
  simp only [Sl.val, Value.slice.injEq] at hval
  obtain ⟨rfl, hn4, rfl⟩ := hval
  unfold maxLen at hl2
  have HC := hid hlc
  have HN4 := hid hn4
  have HSS := hid hS
  have hB : Below w.heap.size w (w.alloc (.cells #[.int .i64 fr, .int .i64 sw, .slice a1 n1 k1, .slice a2 n2 k2, .slice a3 n3 k3, .slice a4 n4 k4] 27)) := (Below.refl _ _).alloc (Nat.le_refl _) _
  have HB := hid hB
  have HX := hid (BoxAt.new w 27 #[.int .i64 fr, .int .i64 sw, .slice a1 n1 k1, .slice a2 n2 k2, .slice a3 n3 k3, .slice a4 n4 k4])
  obtain ⟨R, hR⟩ : ∃ r, (inB 0 8 c.ch.length && allN (fun i => rchanB c.pa c.ch (c.ch.getD i Ch.zero)) c.ch.length) = r := ⟨_, rfl⟩
  rw [hR]
  have HR := hid hR
  clear hB hlc hS hR
  unfold Cv.val
  simp only
  rw [← hn4] at hl1
  clear hn4
  go_enter Try.func41, Try.ntmps41
  by_cases g1 : (8 : Int) < (n4 : Int)
  · have HE := hid (show R = false by
      have : inB 0 8 (c.ch.length : Int) = false := by rw [← HN4.out]; simp [inB]; omega
      rw [← HR.out, this]; rfl)
    go_wp2
    go_ret
    exact ⟨by rw [HE.out]; rfl, HB.out⟩
  have HI := hid (show inB 0 8 (c.ch.length : Int) = true by rw [← HN4.out]; simp [inB]; omega)
  go_wp2
  generalize w.alloc (.cells #[.int .i64 fr, .int .i64 sw, .slice a1 n1 k1, .slice a2 n2 k2, .slice a3 n3 k3, .slice a4 n4 k4] 27) = w0 at *
  go_loopw [3] (fun t wc => ∃ i : Nat, i ≤ n4 ∧ t = .int .i64 i ∧ (∀ j, j < i → rchanB c.pa c.ch (c.ch.getD j Ch.zero) = true) ∧ Below w0.heap.size w0 wc) (fun t _ => n4 - (intOf t).toNat)
  case atStart => exact ⟨0, by omega, rfl, by intro j hj; omega, Below.refl _ _⟩
  case round =>
    obtain ⟨i, hi, rfl, hgood, hbel⟩ := hrel
    have HG := hid hgood
    clear hgood
    have e5 := ((HX.out.belowAll hbel).cell 5).trans rfl
    by_cases hlt : i < n4
    · have hlt' : i < c.ch.length := by rw [← HN4.out]; exact hlt
      obtain ⟨bb, off, rfl, hbw, hcell⟩ := HC.out (by omega)
      have HWr := hid (HB.out.trans (hbel.mono HB.out.size))
      have c0 := (HWr.out.cell (by exact hbw)).trans (hcell i hlt' 0 (by decide))
      have c1 := (HWr.out.cell (by exact hbw)).trans (hcell i hlt' 1 (by decide))
      have c2 := (HWr.out.cell (by exact hbw)).trans (hcell i hlt' 2 (by decide))
      have c3 := (HWr.out.cell (by exact hbw)).trans (hcell i hlt' 3 (by decide))
      have c4 := (HWr.out.cell (by exact hbw)).trans (hcell i hlt' 4 (by decide))
      have HNo := hid (show rchanB c.pa c.ch (c.ch.getD i Ch.zero) = false → R = false from fun h => by rw [← HR.out, allN_no _ _ i hlt' h, Bool.and_false])
      have HGo := hid (show rchanB c.pa c.ch (c.ch.getD i Ch.zero) = true → ∀ j, j < i + 1 → rchanB c.pa c.ch (c.ch.getD j Ch.zero) = true by
        intro h j hj
        by_cases e : j = i
        · subst e; exact h
        · exact HG.out j (by omega))
      clear hcell HC HG hlt'
      generalize c.ch.getD i Ch.zero = x at *
      obtain ⟨xq, xf, xa, xt, xb⟩ := x
      simp only [Ch.cells, List.getD_cons_zero, List.getD_cons_succ, Nat.add_zero] at c0 c1 c2 c3 c4
      have hA : Below w0.heap.size w0 (wr.alloc (.cells #[.bool xq, .int .i64 xf, .int .i64 xa, .int .i64 xt, .int .i64 xb] 41)) := hbel.alloc hbel.size _
      have HA := hid hA
      have HX1 := hid (HX.out.belowAll hA)
      have HY1 := hid (BoxAt.new wr 41 #[.bool xq, .int .i64 xf, .int .i64 xa, .int .i64 xt, .int .i64 xb])
      have HS1 := hid (show ∀ w', Below (wr.alloc (.cells #[.bool xq, .int .i64 xf, .int .i64 xa, .int .i64 xt, .int .i64 xb] 41)).heap.size (wr.alloc (.cells #[.bool xq, .int .i64 xf, .int .i64 xa, .int .i64 xt, .int .i64 xb] 41)) w' → CfAt w' ⟨fr, sw, ⟨a1, n1, k1⟩, ⟨a2, n2, k2⟩, ⟨a3, n3, k3⟩, ⟨some ⟨bb, off, none⟩, n4, k4⟩⟩ c from fun w' h => (HSS.out.below (HB.out.trans (hA.mono HB.out.size))).below h)
      obtain ⟨P1, hP1⟩ : ∃ n, rportsN c.pa xf xq = n := ⟨_, rfl⟩
      obtain ⟨P2, hP2⟩ : ∃ n, rportsN c.pa xt xq = n := ⟨_, rfl⟩
      obtain ⟨b1, hb1⟩ : ∃ b, inB 0 ((P1 : Int) - 1) xa = b := ⟨_, rfl⟩
      obtain ⟨b2, hb2⟩ : ∃ b, inB 0 ((P2 : Int) - 1) xb = b := ⟨_, rfl⟩
      have hp1 : P1 ≤ 9223372036854775807 := by rw [← hP1]; exact rports_le HSS.out _ _
      have hp2 : P2 ≤ 9223372036854775807 := by rw [← hP2]; exact rports_le HSS.out _ _
      have w1 : IntKind.i64.wrap ((P1 : Int) - 1) = (P1 : Int) - 1 := by rw [IntKind.wrap_i64]; omega
      have w2 : IntKind.i64.wrap ((P2 : Int) - 1) = (P2 : Int) - 1 := by rw [IntKind.wrap_i64]; omega
      have HP1 := hid hP1
      have HP2 := hid hP2
      have Hb1 := hid hb1
      have Hb2 := hid hb2
      have HRC := hid (show rchanB c.pa c.ch ⟨xq, xf, xa, xt, xb⟩ = (b1 && b2 && decide (xf ≠ xt) && decide (endsN c.ch ⟨xq, xf, xa⟩ ≤ 1) && decide (endsN c.ch ⟨xq, xt, xb⟩ ≤ 1)) by
        have k1 := ports_has c.pa ⟨xq, xf, xa⟩
        have k2 := ports_has c.pa ⟨xq, xt, xb⟩
        simp only [hP1, hb1] at k1
        simp only [hP2, hb2] at k2
        simp only [rchanB, fromE, toE]
        rw [← k1, ← k2]
        rfl)
      clear hP1 hP2 hb1 hb2 hA hp1 hp2
      go_wp2_with fail
      generalize wr.alloc (.cells #[.bool xq, .int .i64 xf, .int .i64 xa, .int .i64 xt, .int .i64 xb] 41) = W1 at *
      have MK := hid (show ∀ w', Below W1.heap.size W1 w' → Below W1.heap.size W1 w' ∧ w'.cell? ⟨w.heap.size, 0, none⟩ = some (.int .i64 fr) ∧ w'.cell? ⟨w.heap.size, 1, none⟩ = some (.int .i64 sw) ∧ w'.cell? ⟨w.heap.size, 2, none⟩ = some (.slice a1 n1 k1) ∧ w'.cell? ⟨w.heap.size, 3, none⟩ = some (.slice a2 n2 k2) ∧ w'.cell? ⟨w.heap.size, 4, none⟩ = some (.slice a3 n3 k3) ∧ w'.cell? ⟨w.heap.size, 5, none⟩ = some (.slice (some ⟨bb, off, none⟩) n4 k4) ∧ w'.cell? ⟨wr.heap.size, 0, none⟩ = some (.bool xq) ∧ w'.cell? ⟨wr.heap.size, 1, none⟩ = some (.int .i64 xf) ∧ w'.cell? ⟨wr.heap.size, 2, none⟩ = some (.int .i64 xa) ∧ w'.cell? ⟨wr.heap.size, 3, none⟩ = some (.int .i64 xt) ∧ w'.cell? ⟨wr.heap.size, 4, none⟩ = some (.int .i64 xb) from fun w' h => ⟨h, ((HX1.out.belowAll h).cell 0).trans rfl, ((HX1.out.belowAll h).cell 1).trans rfl, ((HX1.out.belowAll h).cell 2).trans rfl, ((HX1.out.belowAll h).cell 3).trans rfl, ((HX1.out.belowAll h).cell 4).trans rfl, ((HX1.out.belowAll h).cell 5).trans rfl, ((HY1.out.belowAll h).cell 0).trans rfl, ((HY1.out.belowAll h).cell 1).trans rfl, ((HY1.out.belowAll h).cell 2).trans rfl, ((HY1.out.belowAll h).cell 3).trans rfl, ((HY1.out.belowAll h).cell 4).trans rfl⟩)
      clear HX1 HY1 c0 c1 c2 c3 c4 e5
      refine wp_region_held_drew (S := (fun w' => Below W1.heap.size W1 w' ∧ w'.cell? ⟨w.heap.size, 0, none⟩ = some (.int .i64 fr) ∧ w'.cell? ⟨w.heap.size, 1, none⟩ = some (.int .i64 sw) ∧ w'.cell? ⟨w.heap.size, 2, none⟩ = some (.slice a1 n1 k1) ∧ w'.cell? ⟨w.heap.size, 3, none⟩ = some (.slice a2 n2 k2) ∧ w'.cell? ⟨w.heap.size, 4, none⟩ = some (.slice a3 n3 k3) ∧ w'.cell? ⟨w.heap.size, 5, none⟩ = some (.slice (some ⟨bb, off, none⟩) n4 k4) ∧ w'.cell? ⟨wr.heap.size, 0, none⟩ = some (.bool xq) ∧ w'.cell? ⟨wr.heap.size, 1, none⟩ = some (.int .i64 xf) ∧ w'.cell? ⟨wr.heap.size, 2, none⟩ = some (.int .i64 xa) ∧ w'.cell? ⟨wr.heap.size, 3, none⟩ = some (.int .i64 xt) ∧ w'.cell? ⟨wr.heap.size, 4, none⟩ = some (.int .i64 xb))) (by kernel_rfl) (MK.out _ (Below.refl _ _).drew) (fun hHeld => ?_)
      refine wpAnyH_take (i := 0) (oi := { dst := some 23, op := Op.fieldAddr 41 (Operand.tmp 4) 2, type := 0, pos := "ref.go:113", after := #[], guard := none }) (v := ?v1) rfl (by kernel_rfl) (by kernel_rfl) (by kernel_rfl) (fun _ _ _ h => h) (Or.inl ⟨by rfl, ?hy1⟩) (by assumption) ?rest1
      case hy1 => (intro w hSw; (try dsimp only at hSw); go_simp; try with_reducible rfl)
      simp only [Act.put, List.setIfInBounds_toArray, List.set_cons_zero, List.set_cons_succ]
      refine wpAnyH_take (i := 1) (oi := { dst := some 24, op := Op.load 3 (Operand.tmp 23), type := 3, pos := "ref.go:113", after := #[{ on := 0, ground := Ground.data }], guard := none }) (v := ?v2) rfl (by kernel_rfl) (by kernel_rfl) (by kernel_rfl) (fun _ _ _ h => h) (Or.inl ⟨by rfl, ?hy2⟩) (by assumption) ?rest2
      case hy2 => (intro w hSw; (try dsimp only at hSw); go_simp; try with_reducible rfl)
      simp only [Act.put, List.setIfInBounds_toArray, List.set_cons_zero, List.set_cons_succ]
      refine wpAnyH_take (i := 2) (oi := { dst := some 25, op := Op.load 27 (Operand.tmp 1), type := 27, pos := "ref.go:113", after := #[], guard := none }) (v := ?v3) rfl (by kernel_rfl) (by kernel_rfl) (by kernel_rfl) (fun _ _ _ h => h) (Or.inl ⟨by rfl, ?hy3⟩) (by assumption) ?rest3
      case hy3 => (intro w hSw; (try dsimp only at hSw); go_simp; try with_reducible rfl)
      simp only [Act.put, List.setIfInBounds_toArray, List.set_cons_zero, List.set_cons_succ]
      refine wpAnyH_take (i := 3) (oi := { dst := some 26, op := Op.fieldAddr 41 (Operand.tmp 4) 1, type := 0, pos := "ref.go:113", after := #[], guard := none }) (v := ?v4) rfl (by kernel_rfl) (by kernel_rfl) (by kernel_rfl) (fun _ _ _ h => h) (Or.inl ⟨by rfl, ?hy4⟩) (by assumption) ?rest4
      case hy4 => (intro w hSw; (try dsimp only at hSw); go_simp; try with_reducible rfl)
      simp only [Act.put, List.setIfInBounds_toArray, List.set_cons_zero, List.set_cons_succ]
      refine wpAnyH_take (i := 4) (oi := { dst := some 27, op := Op.load 3 (Operand.tmp 26), type := 3, pos := "ref.go:113", after := #[{ on := 3, ground := Ground.data }], guard := none }) (v := ?v5) rfl (by kernel_rfl) (by kernel_rfl) (by kernel_rfl) (fun _ _ _ h => h) (Or.inl ⟨by rfl, ?hy5⟩) (by assumption) ?rest5
      case hy5 => (intro w hSw; (try dsimp only at hSw); go_simp; try with_reducible rfl)
      simp only [Act.put, List.setIfInBounds_toArray, List.set_cons_zero, List.set_cons_succ]
      refine wpAnyH_take (i := 5) (oi := { dst := some 28, op := Op.fieldAddr 41 (Operand.tmp 4) 0, type := 0, pos := "ref.go:113", after := #[], guard := none }) (v := ?v6) rfl (by kernel_rfl) (by kernel_rfl) (by kernel_rfl) (fun _ _ _ h => h) (Or.inl ⟨by rfl, ?hy6⟩) (by assumption) ?rest6
      case hy6 => (intro w hSw; (try dsimp only at hSw); go_simp; try with_reducible rfl)
      simp only [Act.put, List.setIfInBounds_toArray, List.set_cons_zero, List.set_cons_succ]
      refine wpAnyH_take (i := 6) (oi := { dst := some 29, op := Op.load 4 (Operand.tmp 28), type := 4, pos := "ref.go:113", after := #[{ on := 5, ground := Ground.data }], guard := none }) (v := ?v7) rfl (by kernel_rfl) (by kernel_rfl) (by kernel_rfl) (fun _ _ _ h => h) (Or.inl ⟨by rfl, ?hy7⟩) (by assumption) ?rest7
      case hy7 => (intro w hSw; (try dsimp only at hSw); go_simp; try with_reducible rfl)
      simp only [Act.put, List.setIfInBounds_toArray, List.set_cons_zero, List.set_cons_succ]
      refine wpAnyH_ready (rs := [7]) (by kernel_rfl) (by simp) (AllReadyH.cons (o := { dst := some 30, op := Op.call { callee := Callee.value (Operand.func 74), args := #[Operand.tmp 25, Operand.tmp 27, Operand.tmp 29], argTypes := #[27, 3, 4] }, type := 3, pos := "ref.go:113", after := #[{ on := 2, ground := Ground.data }, { on := 4, ground := Ground.data }, { on := 6, ground := Ground.data }], guard := none }) rfl (fun K8 hK8 => ?_) AllReadyH.nil)
      go_simp
      refine (rports_any ⟨fr, sw, ⟨a1, n1, k1⟩, ⟨a2, n2, k2⟩, ⟨a3, n3, k3⟩, ⟨some ⟨bb, off, none⟩, n4, k4⟩⟩ c xf xq _ (HS1.out _ hHeld.1)).mono ?_
      rintro e u8 ⟨rfl, hb8⟩
      rw [HP1.out]
      refine hK8.out _ _ (MK.out _ (hHeld.1.trans (hb8.mono hHeld.1.size))) (fun hHeld8 => ?_)
      clear hK8 K8
      try simp only [Act.put, List.setIfInBounds_toArray, List.set_cons_zero, List.set_cons_succ]
      refine wpAnyH_take (i := 8) (oi := { dst := some 31, op := Op.binOp BinOp.sub 3 (Operand.tmp 30) (Operand.const (Value.int IntKind.i64 1)) 3, type := 3, pos := "ref.go:113", after := #[{ on := 7, ground := Ground.data }], guard := none }) (v := ?v9) rfl (by kernel_rfl) (by kernel_rfl) (by kernel_rfl) (fun _ _ _ h => h) (Or.inl ⟨by rfl, ?hy9⟩) (by assumption) ?rest9
      case hy9 => (intro w hSw; (try dsimp only at hSw); go_simp; try with_reducible rfl)
      simp only [Act.put, List.setIfInBounds_toArray, List.set_cons_zero, List.set_cons_succ]
      refine wpAnyH_ready (rs := [9]) (by kernel_rfl) (by simp) (AllReadyH.cons (o := { dst := some 32, op := Op.call { callee := Callee.value (Operand.func 37), args := #[Operand.tmp 24, Operand.const (Value.int IntKind.i64 0), Operand.tmp 31], argTypes := #[3, 3, 3] }, type := 4, pos := "ref.go:113", after := #[{ on := 1, ground := Ground.data }, { on := 8, ground := Ground.data }, { on := 7, ground := Ground.chain }], guard := none }) rfl (fun K10 hK10 => ?_) AllReadyH.nil)
      go_simp
      refine (rin_any xa 0 ((P1 : Int) - 1) _).mono ?_
      rintro e u10 ⟨rfl, rfl⟩
      rw [Hb1.out]
      refine hK10.out _ _ (hHeld8) (fun hHeld10 => ?_)
      clear hK10 K10
      try simp only [Act.put, List.setIfInBounds_toArray, List.set_cons_zero, List.set_cons_succ]
      refine wpAnyH_take (i := 10) (oi := { dst := some 5, op := Op.assign (Operand.tmp 32), type := 4, pos := "ref.go:113", after := #[{ on := 9, ground := Ground.data }, { on := 9, ground := Ground.chain }, { on := 0, ground := Ground.phase }, { on := 1, ground := Ground.phase }, { on := 2, ground := Ground.phase }, { on := 3, ground := Ground.phase }, { on := 4, ground := Ground.phase }, { on := 5, ground := Ground.phase }, { on := 6, ground := Ground.phase }, { on := 7, ground := Ground.phase }, { on := 8, ground := Ground.phase }, { on := 9, ground := Ground.phase }], guard := none }) (v := ?v11) rfl (by kernel_rfl) (by kernel_rfl) (by kernel_rfl) (fun _ _ _ h => h) (Or.inl ⟨by rfl, ?hy11⟩) (by assumption) ?rest11
      case hy11 => (intro w hSw; (try dsimp only at hSw); go_simp; try with_reducible rfl)
      simp only [Act.put, List.setIfInBounds_toArray, List.set_cons_zero, List.set_cons_succ]
      refine wpAnyH_done (by kernel_rfl) ?_ _
      go_wp2_with fail
      refine wp_region_held_drew (S := (fun w' => Below W1.heap.size W1 w' ∧ w'.cell? ⟨w.heap.size, 0, none⟩ = some (.int .i64 fr) ∧ w'.cell? ⟨w.heap.size, 1, none⟩ = some (.int .i64 sw) ∧ w'.cell? ⟨w.heap.size, 2, none⟩ = some (.slice a1 n1 k1) ∧ w'.cell? ⟨w.heap.size, 3, none⟩ = some (.slice a2 n2 k2) ∧ w'.cell? ⟨w.heap.size, 4, none⟩ = some (.slice a3 n3 k3) ∧ w'.cell? ⟨w.heap.size, 5, none⟩ = some (.slice (some ⟨bb, off, none⟩) n4 k4) ∧ w'.cell? ⟨wr.heap.size, 0, none⟩ = some (.bool xq) ∧ w'.cell? ⟨wr.heap.size, 1, none⟩ = some (.int .i64 xf) ∧ w'.cell? ⟨wr.heap.size, 2, none⟩ = some (.int .i64 xa) ∧ w'.cell? ⟨wr.heap.size, 3, none⟩ = some (.int .i64 xt) ∧ w'.cell? ⟨wr.heap.size, 4, none⟩ = some (.int .i64 xb))) (by kernel_rfl) (MK.out _ hHeld10.1.drew) (fun hHx => ?_)
      refine wpAnyH_take (i := 0) (oi := { dst := some 33, op := Op.fieldAddr 41 (Operand.tmp 4) 4, type := 0, pos := "ref.go:114", after := #[], guard := none }) (v := ?v101) rfl (by kernel_rfl) (by kernel_rfl) (by kernel_rfl) (fun _ _ _ h => h) (Or.inl ⟨by rfl, ?hy101⟩) (by assumption) ?rest101
      case hy101 => (intro w hSw; (try dsimp only at hSw); go_simp; try with_reducible rfl)
      simp only [Act.put, List.setIfInBounds_toArray, List.set_cons_zero, List.set_cons_succ]
      refine wpAnyH_take (i := 1) (oi := { dst := some 34, op := Op.load 3 (Operand.tmp 33), type := 3, pos := "ref.go:114", after := #[{ on := 0, ground := Ground.data }], guard := none }) (v := ?v102) rfl (by kernel_rfl) (by kernel_rfl) (by kernel_rfl) (fun _ _ _ h => h) (Or.inl ⟨by rfl, ?hy102⟩) (by assumption) ?rest102
      case hy102 => (intro w hSw; (try dsimp only at hSw); go_simp; try with_reducible rfl)
      simp only [Act.put, List.setIfInBounds_toArray, List.set_cons_zero, List.set_cons_succ]
      refine wpAnyH_take (i := 2) (oi := { dst := some 35, op := Op.load 27 (Operand.tmp 1), type := 27, pos := "ref.go:114", after := #[], guard := none }) (v := ?v103) rfl (by kernel_rfl) (by kernel_rfl) (by kernel_rfl) (fun _ _ _ h => h) (Or.inl ⟨by rfl, ?hy103⟩) (by assumption) ?rest103
      case hy103 => (intro w hSw; (try dsimp only at hSw); go_simp; try with_reducible rfl)
      simp only [Act.put, List.setIfInBounds_toArray, List.set_cons_zero, List.set_cons_succ]
      refine wpAnyH_take (i := 3) (oi := { dst := some 36, op := Op.fieldAddr 41 (Operand.tmp 4) 3, type := 0, pos := "ref.go:114", after := #[], guard := none }) (v := ?v104) rfl (by kernel_rfl) (by kernel_rfl) (by kernel_rfl) (fun _ _ _ h => h) (Or.inl ⟨by rfl, ?hy104⟩) (by assumption) ?rest104
      case hy104 => (intro w hSw; (try dsimp only at hSw); go_simp; try with_reducible rfl)
      simp only [Act.put, List.setIfInBounds_toArray, List.set_cons_zero, List.set_cons_succ]
      refine wpAnyH_take (i := 4) (oi := { dst := some 37, op := Op.load 3 (Operand.tmp 36), type := 3, pos := "ref.go:114", after := #[{ on := 3, ground := Ground.data }], guard := none }) (v := ?v105) rfl (by kernel_rfl) (by kernel_rfl) (by kernel_rfl) (fun _ _ _ h => h) (Or.inl ⟨by rfl, ?hy105⟩) (by assumption) ?rest105
      case hy105 => (intro w hSw; (try dsimp only at hSw); go_simp; try with_reducible rfl)
      simp only [Act.put, List.setIfInBounds_toArray, List.set_cons_zero, List.set_cons_succ]
      refine wpAnyH_take (i := 5) (oi := { dst := some 38, op := Op.fieldAddr 41 (Operand.tmp 4) 0, type := 0, pos := "ref.go:114", after := #[], guard := none }) (v := ?v106) rfl (by kernel_rfl) (by kernel_rfl) (by kernel_rfl) (fun _ _ _ h => h) (Or.inl ⟨by rfl, ?hy106⟩) (by assumption) ?rest106
      case hy106 => (intro w hSw; (try dsimp only at hSw); go_simp; try with_reducible rfl)
      simp only [Act.put, List.setIfInBounds_toArray, List.set_cons_zero, List.set_cons_succ]
      refine wpAnyH_take (i := 6) (oi := { dst := some 39, op := Op.load 4 (Operand.tmp 38), type := 4, pos := "ref.go:114", after := #[{ on := 5, ground := Ground.data }], guard := none }) (v := ?v107) rfl (by kernel_rfl) (by kernel_rfl) (by kernel_rfl) (fun _ _ _ h => h) (Or.inl ⟨by rfl, ?hy107⟩) (by assumption) ?rest107
      case hy107 => (intro w hSw; (try dsimp only at hSw); go_simp; try with_reducible rfl)
      simp only [Act.put, List.setIfInBounds_toArray, List.set_cons_zero, List.set_cons_succ]
      refine wpAnyH_ready (rs := [7]) (by kernel_rfl) (by simp) (AllReadyH.cons (o := { dst := some 40, op := Op.call { callee := Callee.value (Operand.func 74), args := #[Operand.tmp 35, Operand.tmp 37, Operand.tmp 39], argTypes := #[27, 3, 4] }, type := 3, pos := "ref.go:114", after := #[{ on := 2, ground := Ground.data }, { on := 4, ground := Ground.data }, { on := 6, ground := Ground.data }], guard := none }) rfl (fun K108 hK108 => ?_) AllReadyH.nil)
      go_simp
      refine (rports_any ⟨fr, sw, ⟨a1, n1, k1⟩, ⟨a2, n2, k2⟩, ⟨a3, n3, k3⟩, ⟨some ⟨bb, off, none⟩, n4, k4⟩⟩ c xt xq _ (HS1.out _ hHx.1)).mono ?_
      rintro e u108 ⟨rfl, hb108⟩
      rw [HP2.out]
      refine hK108.out _ _ (MK.out _ (hHx.1.trans (hb108.mono hHx.1.size))) (fun hHx108 => ?_)
      clear hK108 K108
      try simp only [Act.put, List.setIfInBounds_toArray, List.set_cons_zero, List.set_cons_succ]
      refine wpAnyH_take (i := 8) (oi := { dst := some 41, op := Op.binOp BinOp.sub 3 (Operand.tmp 40) (Operand.const (Value.int IntKind.i64 1)) 3, type := 3, pos := "ref.go:114", after := #[{ on := 7, ground := Ground.data }], guard := none }) (v := ?v109) rfl (by kernel_rfl) (by kernel_rfl) (by kernel_rfl) (fun _ _ _ h => h) (Or.inl ⟨by rfl, ?hy109⟩) (by assumption) ?rest109
      case hy109 => (intro w hSw; (try dsimp only at hSw); go_simp; try with_reducible rfl)
      simp only [Act.put, List.setIfInBounds_toArray, List.set_cons_zero, List.set_cons_succ]
      refine wpAnyH_ready (rs := [9]) (by kernel_rfl) (by simp) (AllReadyH.cons (o := { dst := some 42, op := Op.call { callee := Callee.value (Operand.func 37), args := #[Operand.tmp 34, Operand.const (Value.int IntKind.i64 0), Operand.tmp 41], argTypes := #[3, 3, 3] }, type := 4, pos := "ref.go:114", after := #[{ on := 1, ground := Ground.data }, { on := 8, ground := Ground.data }, { on := 7, ground := Ground.chain }], guard := none }) rfl (fun K110 hK110 => ?_) AllReadyH.nil)
      go_simp
      refine (rin_any xb 0 ((P2 : Int) - 1) _).mono ?_
      rintro e u110 ⟨rfl, rfl⟩
      rw [Hb2.out]
      refine hK110.out _ _ (hHx108) (fun hHx110 => ?_)
      clear hK110 K110
      try simp only [Act.put, List.setIfInBounds_toArray, List.set_cons_zero, List.set_cons_succ]
      refine wpAnyH_take (i := 10) (oi := { dst := some 6, op := Op.assign (Operand.tmp 42), type := 4, pos := "ref.go:114", after := #[{ on := 9, ground := Ground.data }, { on := 9, ground := Ground.chain }, { on := 0, ground := Ground.phase }, { on := 1, ground := Ground.phase }, { on := 2, ground := Ground.phase }, { on := 3, ground := Ground.phase }, { on := 4, ground := Ground.phase }, { on := 5, ground := Ground.phase }, { on := 6, ground := Ground.phase }, { on := 7, ground := Ground.phase }, { on := 8, ground := Ground.phase }, { on := 9, ground := Ground.phase }], guard := none }) (v := ?v111) rfl (by kernel_rfl) (by kernel_rfl) (by kernel_rfl) (fun _ _ _ h => h) (Or.inl ⟨by rfl, ?hy111⟩) (by assumption) ?rest111
      case hy111 => (intro w hSw; (try dsimp only at hSw); go_simp; try with_reducible rfl)
      simp only [Act.put, List.setIfInBounds_toArray, List.set_cons_zero, List.set_cons_succ]
      refine wpAnyH_done (by kernel_rfl) ?_ _
      obtain ⟨hcur, d0, d1, d2, d3, d4, d5, x0, x1, x2, x3, x4⟩ := hHx110
      clear w1 w2
      have HE := hid (show ∀ w', Below W1.heap.size W1 w' → Below w.heap.size w w' from fun w' h => HB.out.trans ((HA.out.trans (h.mono HA.out.size)).mono HB.out.size))
      have HE0 := hid (show ∀ w', Below W1.heap.size W1 w' → Below w0.heap.size w0 w' from fun w' h => HA.out.trans (h.mono HA.out.size))
      cases b1
      · have HN := hid (HNo.out (by rw [HRC.out]; simp))
        clear HNo HGo HRC
        go_wp2
        go_ret
        exact ⟨by rw [HN.out]; rfl, HE.out _ hcur⟩
      cases b2
      · have HN := hid (HNo.out (by rw [HRC.out]; simp))
        clear HNo HGo HRC
        go_wp2
        go_ret
        exact ⟨by rw [HN.out]; rfl, HE.out _ hcur⟩
      rcases hft : (xf == xt)
      · have HFT := hid (show decide (xf ≠ xt) = true by simpa using hft)
        go_wp2_with fail
        refine (rends_any ⟨fr, sw, ⟨a1, n1, k1⟩, ⟨a2, n2, k2⟩, ⟨a3, n3, k3⟩, ⟨some ⟨bb, off, none⟩, n4, k4⟩⟩ c xq xf xa _ (HS1.out _ hcur) (by rw [← HN4.out]; omega)).mono ?_
        rintro e w7 ⟨rfl, hb7⟩
        have hc7 := hcur.trans (hb7.mono hcur.size)
        have H7 := hid (MK.out _ hc7)
        clear d0 d1 d2 d3 d4 d5 x0 x1 x2 x3 x4 hb7 hcur
        obtain ⟨hcur, d0, d1, d2, d3, d4, d5, x0, x1, x2, x3, x4⟩ := H7.out
        generalize endsN c.ch ⟨xq, xf, xa⟩ = N1 at *
        by_cases hn1 : (1 : Int) < (N1 : Int)
        · have HN := hid (HNo.out (by rw [HRC.out, show decide (N1 ≤ 1) = false from decide_eq_false (by omega)]; simp))
          clear HNo HGo HRC
          go_wp2
          go_ret
          exact ⟨by rw [HN.out]; rfl, HE.out _ hcur⟩
        have HN1 := hid (show decide (N1 ≤ 1) = true from decide_eq_true (by omega))
        go_wp2_with fail
        refine (rends_any ⟨fr, sw, ⟨a1, n1, k1⟩, ⟨a2, n2, k2⟩, ⟨a3, n3, k3⟩, ⟨some ⟨bb, off, none⟩, n4, k4⟩⟩ c xq xt xb _ (HS1.out _ hcur) (by rw [← HN4.out]; omega)).mono ?_
        rintro e w8 ⟨rfl, hb8⟩
        have hc8 := hcur.trans (hb8.mono hcur.size)
        clear d0 d1 d2 d3 d4 d5 x0 x1 x2 x3 x4 hb8 hcur
        generalize endsN c.ch ⟨xq, xt, xb⟩ = N2 at *
        by_cases hn2 : (1 : Int) < (N2 : Int)
        · have HN := hid (HNo.out (by rw [HRC.out, show decide (N2 ≤ 1) = false from decide_eq_false (by omega)]; simp))
          clear HNo HGo HRC
          go_wp2
          go_ret
          exact ⟨by rw [HN.out]; rfl, HE.out _ hc8⟩
        have HN := hid (HGo.out (by rw [HRC.out, HN1.out, HFT.out, show decide (N2 ≤ 1) = true from decide_eq_true (by omega)]; rfl))
        clear HNo HGo HRC HFT
        go_wp2
        go_roundw
        case rel => exact ⟨i + 1, by omega, by go_num, HN.out, HE0.out _ hc8⟩
        case measure => simp [intOf]; omega
      · have HN := hid (HNo.out (by rw [HRC.out, show decide (xf ≠ xt) = false by simpa using hft]; simp))
        clear HNo HGo HRC
        go_wp2
        go_ret
        exact ⟨by rw [HN.out]; rfl, HE.out _ hcur⟩
    · have HE := hid (show R = true by rw [← HR.out, HI.out, allN_yes _ _ (fun j hj => HG.out j (by rw [← HN4.out] at hj; omega))]; rfl)
      clear HG HC
      go_wp2
      go_ret
      exact ⟨by rw [HE.out]; rfl, HB.out.trans (hbel.mono HB.out.size)⟩


def rwinF (fr : Int) (n : Nat) : Int → List Wn → Bool
  | _, [] => true
  | e, v :: l => inB 0 ((n : Int) - 1) v.p && inB e fr v.st && inB 1 fr v.ln && decide (v.st + v.ln ≤ fr) && rwinF fr n (v.st + v.ln) l
theorem drop_getD (l : List Wn) (i : Nat) (h : i < l.length) : l.drop i = l.getD i Wn.zero :: l.drop (i + 1) := by
  rw [List.drop_eq_getElem_cons h]; simp [List.getD, List.getElem?_eq_getElem h]

set_option maxRecDepth 100000 in
set_option maxHeartbeats 4000000 in
theorem rwindows_any (q : Cv) (c : Cf) (w : World) (hS : CfAt w q c) (hf1 : 1 ≤ c.fr) (hf2 : c.fr ≤ 4096) :
    Calls Try.prog 40 #[q.val] w fun e w' => e = .returned (.bool (inB 1 12 c.wi.length && rwinF c.fr c.pa.length 0 c.wi)) ∧ Below w.heap.size w w' := by
  obtain ⟨fr, sw, ⟨a1, n1, k1⟩, ⟨a2, n2, k2⟩, ⟨a3, n3, k3⟩, ⟨a4, n4, k4⟩⟩ := q
  obtain rfl : fr = c.fr := hS.fr
  obtain ⟨al, cl, hval, hl1, hl2, hlc⟩ := hS.wi.form
  simp only [Sl.val, Value.slice.injEq] at hval
  obtain ⟨rfl, hn3, rfl⟩ := hval
  have hn2 : n2 = c.pa.length ∧ n2 ≤ 9223372036854775807 := by
    obtain ⟨qs, hq, hln, _⟩ := hS.pa
    obtain ⟨_, _, hvq, _, hvm, _⟩ := hq.form
    simp only [Sl.val, Value.slice.injEq] at hvq
    unfold maxLen at hvm
    omega
  unfold maxLen at hl2
  have HC := hid hlc
  have HN3 := hid hn3
  obtain ⟨R, hR⟩ : ∃ r, (inB 1 12 c.wi.length && rwinF c.fr c.pa.length 0 c.wi) = r := ⟨_, rfl⟩
  rw [hR]
  rw [← hn2.1, ← hn3] at hR
  have hn2' := hn2.2
  have HR := hid hR
  clear hlc hS hR hn2
  generalize c.fr = fr at *
  rw [← hn3] at hl1
  clear hn3
  have hB : Below w.heap.size w (w.alloc (.cells #[.int .i64 fr, .int .i64 sw, .slice a1 n1 k1, .slice a2 n2 k2, .slice a3 n3 k3, .slice a4 n4 k4] 27)) := (Below.refl _ _).alloc (Nat.le_refl _) _
  have HB := hid hB
  have HX := hid (BoxAt.new w 27 #[.int .i64 fr, .int .i64 sw, .slice a1 n1 k1, .slice a2 n2 k2, .slice a3 n3 k3, .slice a4 n4 k4])
  clear hB
  unfold Cv.val
  simp only
  go_enter Try.func40, Try.ntmps40
  by_cases g1 : (n3 : Int) < 1
  · have HE := hid (show R = false by
      have : inB 1 12 (n3 : Int) = false := by simp [inB]; omega
      rw [← HR.out, this]; rfl)
    go_wp2
    go_ret
    exact ⟨by rw [HE.out]; rfl, HB.out⟩
  by_cases g2 : (12 : Int) < (n3 : Int)
  · have HE := hid (show R = false by
      have : inB 1 12 (n3 : Int) = false := by simp [inB]; omega
      rw [← HR.out, this]; rfl)
    go_wp2
    go_ret
    exact ⟨by rw [HE.out]; rfl, HB.out⟩
  replace HR := hid (show R = rwinF fr n2 0 c.wi by
      have : inB 1 12 (n3 : Int) = true := by simp [inB]; omega
      rw [← HR.out, this]; rfl)
  go_wp2
  generalize w.alloc (.cells #[.int .i64 fr, .int .i64 sw, .slice a1 n1 k1, .slice a2 n2 k2, .slice a3 n3 k3, .slice a4 n4 k4] 27) = w0 at *
  go_loopw [3, 4] (fun s t wc => ∃ (i : Nat) (e : Int), i ≤ n3 ∧ t = .int .i64 i ∧ s = .int .i64 e ∧ 0 ≤ e ∧ e ≤ 4096 ∧ R = rwinF fr n2 e (c.wi.drop i) ∧ Below w0.heap.size w0 wc) (fun _ t _ => n3 - (intOf t).toNat)
  case atStart => exact ⟨0, 0, by omega, rfl, rfl, by omega, by omega, by rw [HR.out]; rfl, Below.refl _ _⟩
  case round =>
    obtain ⟨i, e, hi, rfl, rfl, he0, he1, hR, hbel⟩ := hrel
    have HRi := hid hR
    clear hR HR
    have e0 := ((HX.out.belowAll hbel).cell 0).trans rfl
    have e3 := ((HX.out.belowAll hbel).cell 3).trans rfl
    have e4 := ((HX.out.belowAll hbel).cell 4).trans rfl
    by_cases hlt : i < n3
    · have hlt' : i < c.wi.length := by rw [← HN3.out]; exact hlt
      obtain ⟨bb, off, rfl, hbw, hcell⟩ := HC.out (by omega)
      have HWr := hid (HB.out.trans (hbel.mono HB.out.size))
      have c0 := (HWr.out.cell (by exact hbw)).trans (hcell i hlt' 0 (by decide))
      have c1 := (HWr.out.cell (by exact hbw)).trans (hcell i hlt' 1 (by decide))
      have c2 := (HWr.out.cell (by exact hbw)).trans (hcell i hlt' 2 (by decide))
      have HD := hid (drop_getD c.wi i hlt')
      clear hcell HC hlt'
      generalize c.wi.getD i Wn.zero = x at *
      obtain ⟨xp, xs, xl⟩ := x
      simp only [Wn.cells, List.getD_cons_zero, List.getD_cons_succ, Nat.add_zero] at c0 c1 c2
      have hA : Below w0.heap.size w0 (wr.alloc (.cells #[.int .i64 xp, .int .i64 xs, .int .i64 xl] 39)) := hbel.alloc hbel.size _
      have HA := hid hA
      have f0 := ((HX.out.belowAll hA).cell 0).trans rfl
      have f3 := ((HX.out.belowAll hA).cell 3).trans rfl
      have HRx := hid (show R = (inB 0 ((n2 : Int) - 1) xp && inB e fr xs && inB 1 fr xl && decide (xs + xl ≤ fr) && rwinF fr n2 (xs + xl) (c.wi.drop (i + 1))) by rw [HRi.out, HD.out, rwinF])
      have HE := hid (show Below w.heap.size w (wr.alloc (.cells #[.int .i64 xp, .int .i64 xs, .int .i64 xl] 39)) from HB.out.trans (hA.mono HB.out.size))
      clear hA HRi HD
      go_wp2_with fail
      refine (rin_any xp 0 ((n2 : Int) - 1) _).mono ?_
      rintro _ _ ⟨rfl, rfl⟩
      go_wp2_with fail
      refine (rin_any xs e fr _).mono ?_
      rintro _ _ ⟨rfl, rfl⟩
      go_wp2_with fail
      refine (rin_any xl 1 fr _).mono ?_
      rintro _ _ ⟨rfl, rfl⟩
      rcases h1 : inB 0 ((n2 : Int) - 1) xp
      · have HN := hid (show R = false by rw [HRx.out, h1]; simp)
        clear HRx
        go_wp2
        go_ret
        exact ⟨by rw [HN.out]; rfl, HE.out⟩
      rcases h2 : inB e fr xs
      · have HN := hid (show R = false by rw [HRx.out, h2]; simp)
        clear HRx
        go_wp2
        go_ret
        exact ⟨by rw [HN.out]; rfl, HE.out⟩
      rcases h3 : inB 1 fr xl
      · have HN := hid (show R = false by rw [HRx.out, h3]; simp)
        clear HRx
        go_wp2
        go_ret
        exact ⟨by rw [HN.out]; rfl, HE.out⟩
      have b2 : e ≤ xs ∧ xs ≤ fr := by simpa [inB] using h2
      have b3 : 1 ≤ xl ∧ xl ≤ fr := by simpa [inB] using h3
      obtain ⟨b21, b22⟩ := b2
      obtain ⟨b31, b32⟩ := b3
      by_cases h4 : fr < xs + xl
      · have HN := hid (show R = false by rw [HRx.out, show decide (xs + xl ≤ fr) = false from decide_eq_false (by omega)]; simp)
        clear HRx
        go_wp2
        go_ret
        exact ⟨by rw [HN.out]; rfl, HE.out⟩
      have HN := hid (show R = rwinF fr n2 (xs + xl) (c.wi.drop (i + 1)) by rw [HRx.out, h1, h2, h3, show decide (xs + xl ≤ fr) = true from decide_eq_true (by omega)]; rfl)
      clear HRx
      go_wp2
      go_roundw
      case rel => exact ⟨i + 1, xs + xl, by omega, by go_num, by go_num, by omega, by omega, HN.out, HA.out⟩
      case measure => simp [intOf]; omega
    · have HE := hid (show R = true by
        rw [HRi.out, List.drop_of_length_le (by rw [← HN3.out]; omega)]; rfl)
      clear HC HRi
      go_wp2
      go_ret
      exact ⟨by rw [HE.out]; rfl, HB.out.trans (hbel.mono HB.out.size)⟩


theorem allN_all {α : Type} (p : α → Bool) (z : α) (l : List α) : allN (fun i => p (l.getD i z)) l.length = l.all p := by
  rw [Bool.eq_iff_iff, allN_iff, List.all_eq_true]
  constructor
  · intro h x hx
    obtain ⟨i, hi, rfl⟩ := mem_getD (d := z) hx
    exact h i hi
  · intro h i hi
    exact h _ (getD_mem hi)

theorem win_same (fr : Int) (n : Nat) (l : List Wn) : ∀ e, 0 ≤ e → rwinF fr n e l = (l.all (winB fr n) && orderF e l) := by
  induction l with
  | nil => intro e _; rfl
  | cons v l ih =>
    intro e he
    rw [rwinF, orderF, List.all_cons, Bool.eq_iff_iff]
    by_cases hs : v.st < e
    · rw [if_pos hs]; simp [inB]; omega
    · rw [if_neg hs]
      by_cases hl : 1 ≤ v.ln
      · rw [ih (v.st + v.ln) (by omega)]
        simp only [winB, inB, Bool.and_eq_true, decide_eq_true_eq]
        constructor
        · rintro ⟨⟨⟨⟨h1, h2⟩, h3⟩, h4⟩, h5, h6⟩
          exact ⟨⟨⟨⟨h1, by omega⟩, by omega⟩, h5⟩, h6⟩
        · rintro ⟨⟨⟨⟨h1, h2⟩, h3⟩, h5⟩, h6⟩
          exact ⟨⟨⟨⟨h1, by omega⟩, by omega⟩, by omega⟩, h5, h6⟩
      · simp only [winB, inB, Bool.and_eq_true, decide_eq_true_eq]
        constructor
        · rintro ⟨⟨⟨⟨h1, h2⟩, h3⟩, h4⟩, h5⟩; omega
        · rintro ⟨⟨⟨⟨h1, h2⟩, h3⟩, h5⟩, h6⟩; omega

theorem eqE_comm (a b : En) : eqE a b = eqE b a := by
  unfold eqE
  rw [Bool.eq_iff_iff, decide_eq_true_eq, decide_eq_true_eq]
  exact ⟨fun ⟨h1, h2, h3⟩ => ⟨h1.symm, h2.symm, h3.symm⟩, fun ⟨h1, h2, h3⟩ => ⟨h1.symm, h2.symm, h3.symm⟩⟩
theorem eqE_self (a : En) : eqE a a = true := by simp [eqE]

theorem count_one (L : List En) : (∀ e ∈ L, L.countP (eqE e) ≤ 1) ↔ L.Pairwise (fun a b => eqE a b = false) := by
  induction L with
  | nil => simp
  | cons a L ih =>
    rw [List.pairwise_cons]
    constructor
    · intro h
      refine ⟨fun b hb => ?_, ih.1 (fun e he => ?_)⟩
      · have h1 := h a (by simp)
        rw [List.countP_cons, if_pos (eqE_self a)] at h1
        have h0 : L.countP (eqE a) = 0 := by omega
        rw [List.countP_eq_zero] at h0
        simpa using h0 b hb
      · have h1 := h e (by simp [he])
        rw [List.countP_cons] at h1
        omega
    · rintro ⟨h1, h2⟩ e he
      rw [List.countP_cons]
      rcases List.mem_cons.1 he with rfl | he
      · rw [if_pos (eqE_self e)]
        have : L.countP (eqE e) = 0 := by rw [List.countP_eq_zero]; intro b hb; rw [h1 b hb]; simp
        omega
      · have := ih.2 h2 e he
        rw [if_neg (by rw [eqE_comm, h1 e he]; simp)]
        omega

theorem apart_pair (l : List Ch) : ∀ tk, (∀ x ∈ l, eqE (fromE x) (toE x) = false) →
    (apartF tk l = true ↔ (∀ e ∈ endL7 l, memE tk e = false) ∧ (endL7 l).Pairwise (fun a b => eqE a b = false)) := by
  induction l with
  | nil => intro tk _; simp [apartF, endL7]
  | cons c l ih =>
    intro tk h
    have he : endL7 (c :: l) = fromE c :: toE c :: endL7 l := by simp [endL7]
    have hm : ∀ e, memE (tk ++ [fromE c, toE c]) e = (memE tk e || (eqE e (fromE c) || eqE e (toE c))) := fun e => by simp [memE]
    rw [apartF, he, List.pairwise_cons, List.pairwise_cons]
    have hc := h c (by simp)
    have ihh := ih (tk ++ [fromE c, toE c]) (fun x hx => h x (by simp [hx]))
    by_cases h1 : memE tk (fromE c) = true
    · rw [if_pos h1]
      constructor
      · intro h; cases h
      · rintro ⟨h2, _⟩; have := h2 (fromE c) (by simp); rw [h1] at this; cases this
    · rw [if_neg h1]
      by_cases h2 : memE tk (toE c) = true
      · rw [if_pos h2]
        constructor
        · intro h; cases h
        · rintro ⟨h3, _⟩; have := h3 (toE c) (by simp); rw [h2] at this; cases this
      · rw [if_neg h2, ihh]
        constructor
        · rintro ⟨h3, h4⟩
          have h5 : ∀ e ∈ endL7 l, memE tk e = false ∧ eqE e (fromE c) = false ∧ eqE e (toE c) = false := fun e he => by
            have := h3 e he; rw [hm] at this; simpa using this
          refine ⟨fun e he => ?_, fun b hb => ?_, fun b hb => ?_, h4⟩
          · rcases List.mem_cons.1 he with rfl | he
            · simpa using h1
            · rcases List.mem_cons.1 he with rfl | he
              · simpa using h2
              · exact (h5 e he).1
          · rcases List.mem_cons.1 hb with rfl | hb
            · exact hc
            · rw [eqE_comm]; exact (h5 b hb).2.1
          · rw [eqE_comm]; exact (h5 b hb).2.2
        · rintro ⟨h3, h4, h5, h6⟩
          refine ⟨fun e he => ?_, h6⟩
          rw [hm, h3 e (by simp [he]), eqE_comm e, h4 e (by simp [he]), eqE_comm e, h5 e he]
          rfl

theorem ch_same (pa : List Pt) (l : List Ch) : l.all (rchanB pa l) = (l.all (chanC pa) && apartF [] l) := by
  rcases hc : l.all (chanC pa)
  · rw [Bool.false_and]
    rw [List.all_eq_false] at hc ⊢
    obtain ⟨x, hx, h⟩ := hc
    refine ⟨x, hx, fun h' => h ?_⟩
    simp only [rchanB, chanC, Bool.and_eq_true] at h' ⊢
    exact ⟨⟨h'.1.1.2, h'.1.1.1.1⟩, h'.1.1.1.2⟩
  · rw [Bool.true_and, Bool.eq_iff_iff]
    rw [List.all_eq_true] at hc
    have hne : ∀ x ∈ l, eqE (fromE x) (toE x) = false := fun x hx => by
      have := hc x hx
      simp only [chanC, Bool.and_eq_true, decide_eq_true_eq] at this
      simp only [eqE, fromE, toE, decide_eq_false_iff_not]
      exact fun h => this.1.1 h.2.1
    rw [apart_pair l [] hne, ← count_one, List.all_eq_true]
    constructor
    · intro h
      refine ⟨fun e _ => rfl, fun e he => ?_⟩
      obtain ⟨x, hx, hex⟩ := List.mem_flatMap.1 he
      have := h x hx
      simp only [rchanB, Bool.and_eq_true, decide_eq_true_eq] at this
      simp at hex
      rcases hex with rfl | rfl
      · exact this.1.2
      · exact this.2
    · rintro ⟨_, h⟩ x hx
      have hk := hc x hx
      simp only [rchanB, chanC, Bool.and_eq_true, decide_eq_true_eq] at hk ⊢
      exact ⟨⟨⟨⟨hk.1.2, hk.2⟩, hk.1.1⟩, h _ (List.mem_flatMap.2 ⟨x, hx, by simp⟩)⟩, h _ (List.mem_flatMap.2 ⟨x, hx, by simp⟩)⟩

theorem may_form (c : Cf) : mayC c = (inB 1 4096 c.fr && inB 0 c.fr c.sw && (decide ((c.li.length : Int) ≤ 8) && allN (fun i => inB 0 ((c.pa.length : Int) - 1) (c.li.getD i 0)) c.li.length) && (inB 1 4 c.pa.length && allN (fun i => partB (c.pa.getD i Pt.zero)) c.pa.length) && (inB 1 12 c.wi.length && rwinF c.fr c.pa.length 0 c.wi) && (inB 0 8 c.ch.length && allN (fun i => rchanB c.pa c.ch (c.ch.getD i Ch.zero)) c.ch.length)) := by
  have h1 : decide ((c.li.length : Int) ≤ 8) = inB 0 8 c.li.length := by simp [inB]
  unfold mayC
  rw [h1, allN_all (rchanB c.pa c.ch), ch_same, win_same _ _ _ _ (Int.le_refl 0), allN_all (winB c.fr c.pa.length), allN_all (chanC c.pa)]
  ac_rfl

set_option maxRecDepth 100000 in
set_option maxHeartbeats 4000000 in
theorem rmayc_any (q : Cv) (c : Cf) (w : World) (hS : CfAt w q c) (hf : c.fit) :
    Calls Try.prog 19 #[q.val] w fun e w' => e = .returned (.bool (mayC c)) ∧ Below w.heap.size w w' := by
  obtain ⟨fr, sw, ⟨a1, n1, k1⟩, ⟨a2, n2, k2⟩, ⟨a3, n3, k3⟩, ⟨a4, n4, k4⟩⟩ := q
  obtain ⟨qs, hq, hln, hpt⟩ := hS.pa
  obtain ⟨al, cl, hval, hl1, hl2, hlc⟩ := hq.form
  simp only [Sl.val, Value.slice.injEq] at hval
  obtain ⟨rfl, hn2, rfl⟩ := hval
  unfold maxLen at hl2
  have hmf := may_form c
  rw [← hln, ← hn2] at hmf
  rw [← hn2] at hl1 hlc
  have HNL := hid (show n2 = c.pa.length by omega)
  have HC := hid hlc
  have HPT := hid (show ∀ i, i < n2 → PtAt w (qs.getD i Pv.zero) (c.pa.getD i Pt.zero) from fun i hi => hpt i (by omega))
  have HFR := hid (show fr = c.fr from hS.fr)
  have HSW := hid (show sw = c.sw from hS.sw)
  have HF := hid (show ∀ i, i < n2 → ∀ r ∈ (c.pa.getD i Pt.zero).rg, r.fit from fun i hi => hf.2 _ (getD_mem (by omega)))
  have HLI := hid (show Sees w .i64 (.slice a1 n1 k1) c.li from hS.li)
  rw [← HFR.out, ← HSW.out] at hmf
  obtain ⟨r1, hr1⟩ : ∃ r, inB 1 4096 fr = r := ⟨_, rfl⟩
  obtain ⟨r2, hr2⟩ : ∃ r, inB 0 fr sw = r := ⟨_, rfl⟩
  obtain ⟨r3, hr3⟩ : ∃ r, (decide ((c.li.length : Int) ≤ 8) && allN (fun i => inB 0 ((n2 : Int) - 1) (c.li.getD i 0)) c.li.length) = r := ⟨_, rfl⟩
  obtain ⟨r5, hr5⟩ : ∃ r, (inB 1 12 c.wi.length && rwinF fr n2 0 c.wi) = r := ⟨_, rfl⟩
  obtain ⟨r6, hr6⟩ : ∃ r, (inB 0 8 c.ch.length && allN (fun i => rchanB c.pa c.ch (c.ch.getD i Ch.zero)) c.ch.length) = r := ⟨_, rfl⟩
  rw [hr1, hr2, hr3, hr5, hr6] at hmf
  obtain ⟨R, hR⟩ : ∃ r, mayC c = r := ⟨_, rfl⟩
  rw [hR] at hmf ⊢
  have HR := hid hmf
  have R1 := hid hr1
  have R2 := hid hr2
  have R3 := hid hr3
  have R5 := hid (show (inB 1 12 c.wi.length && rwinF c.fr c.pa.length 0 c.wi) = r5 by rw [← HFR.out, ← HNL.out]; exact hr5)
  have R6 := hid hr6
  have HS := hid hS
  have hB : Below w.heap.size w (w.alloc (.cells #[.int .i64 fr, .int .i64 sw, .slice a1 n1 k1, .slice a2 n2 k2, .slice a3 n3 k3, .slice a4 n4 k4] 27)) := (Below.refl _ _).alloc (Nat.le_refl _) _
  have HB := hid hB
  have HX := hid (BoxAt.new w 27 #[.int .i64 fr, .int .i64 sw, .slice a1 n1 k1, .slice a2 n2 k2, .slice a3 n3 k3, .slice a4 n4 k4])
  clear hB hr1 hr2 hr3 hr5 hr6 hmf hR hS hf hpt hq hlc hln hn2
  unfold Cv.val
  simp only
  go_enter Try.func19, Try.ntmps19
  go_wp2_with fail
  refine (rin_any fr 1 4096 _).mono ?_
  rintro _ _ ⟨rfl, rfl⟩
  rw [R1.out]
  go_wp2_with fail
  refine (rin_any sw 0 fr _).mono ?_
  rintro _ _ ⟨rfl, rfl⟩
  rw [R2.out]
  go_wp2_with fail
  refine (rnumbers_any _ c.li 8 0 ((n2 : Int) - 1) _ (HLI.out.below HB.out)).mono ?_
  rintro _ _ ⟨rfl, rfl⟩
  rw [R3.out]
  cases r1
  · have HN := hid (show R = false by rw [HR.out]; simp)
    clear HR HC HPT HF
    go_wp2
    go_ret
    exact ⟨by rw [HN.out]; rfl, HB.out⟩
  cases r2
  · have HN := hid (show R = false by rw [HR.out]; simp)
    clear HR HC HPT HF
    go_wp2
    go_ret
    exact ⟨by rw [HN.out]; rfl, HB.out⟩
  cases r3
  · have HN := hid (show R = false by rw [HR.out]; simp)
    clear HR HC HPT HF
    go_wp2
    go_ret
    exact ⟨by rw [HN.out]; rfl, HB.out⟩
  by_cases g1 : (n2 : Int) < 1
  · have HN := hid (show R = false by rw [HR.out, show inB 1 4 (n2 : Int) = false by simp [inB]; omega]; simp)
    clear HR HC HPT HF
    go_wp2
    go_ret
    exact ⟨by rw [HN.out]; rfl, HB.out⟩
  by_cases g2 : (4 : Int) < (n2 : Int)
  · have HN := hid (show R = false by rw [HR.out, show inB 1 4 (n2 : Int) = false by simp [inB]; omega]; simp)
    clear HR HC HPT HF
    go_wp2
    go_ret
    exact ⟨by rw [HN.out]; rfl, HB.out⟩
  replace HR := hid (show R = (allN (fun i => partB (c.pa.getD i Pt.zero)) n2 && r5 && r6) by rw [HR.out, show inB 1 4 (n2 : Int) = true by simp [inB]; omega]; rfl)
  have hf1 : 1 ≤ fr ∧ fr ≤ 4096 := by simpa [inB] using R1.out
  have HF1 := hid hf1
  clear hf1 R1 R2 R3 HLI
  go_wp2
  generalize w.alloc (.cells #[.int .i64 fr, .int .i64 sw, .slice a1 n1 k1, .slice a2 n2 k2, .slice a3 n3 k3, .slice a4 n4 k4] 27) = w0 at *
  go_loopw [6] (fun t wc => ∃ i : Nat, i ≤ n2 ∧ t = .int .i64 i ∧ (∀ j, j < i → partB (c.pa.getD j Pt.zero) = true) ∧ Below w0.heap.size w0 wc) (fun t _ => n2 - (intOf t).toNat)
  case atStart => exact ⟨0, by omega, rfl, by intro j hj; omega, Below.refl _ _⟩
  case round =>
    obtain ⟨i, hi, rfl, hgood, hbel⟩ := hrel
    have HG := hid hgood
    clear hgood
    have e3 := ((HX.out.belowAll hbel).cell 3).trans rfl
    by_cases hlt : i < n2
    · obtain ⟨bb, off, rfl, hbw, hcell⟩ := HC.out (by omega)
      have HWr := hid (HB.out.trans (hbel.mono HB.out.size))
      have c0 := (HWr.out.cell (by exact hbw)).trans (hcell i hlt 0 (by decide))
      have c1 := (HWr.out.cell (by exact hbw)).trans (hcell i hlt 1 (by decide))
      have c2 := (HWr.out.cell (by exact hbw)).trans (hcell i hlt 2 (by decide))
      have c3 := (HWr.out.cell (by exact hbw)).trans (hcell i hlt 3 (by decide))
      have c4 := (HWr.out.cell (by exact hbw)).trans (hcell i hlt 4 (by decide))
      have c5 := (HWr.out.cell (by exact hbw)).trans (hcell i hlt 5 (by decide))
      have c6 := (HWr.out.cell (by exact hbw)).trans (hcell i hlt 6 (by decide))
      have c7 := (HWr.out.cell (by exact hbw)).trans (hcell i hlt 7 (by decide))
      have c8 := (HWr.out.cell (by exact hbw)).trans (hcell i hlt 8 (by decide))
      have c9 := (HWr.out.cell (by exact hbw)).trans (hcell i hlt 9 (by decide))
      have c10 := (HWr.out.cell (by exact hbw)).trans (hcell i hlt 10 (by decide))
      have HPi := hid ((HPT.out i hlt).below HWr.out)
      have HFi := hid (HF.out i hlt)
      have HNo := hid (show partB (c.pa.getD i Pt.zero) = false → R = false from fun h => by rw [HR.out, allN_no _ _ i hlt h]; rfl)
      have HGo := hid (show partB (c.pa.getD i Pt.zero) = true → ∀ j, j < i + 1 → partB (c.pa.getD j Pt.zero) = true by
        intro h j hj
        by_cases e : j = i
        · subst e; exact h
        · exact HG.out j (by omega))
      clear hcell HC HG HPT HF HR
      generalize qs.getD i Pv.zero = x at *
      obtain ⟨v0, ⟨v1a, v1n, v1c⟩, ⟨v2a, v2n, v2c⟩, v3, ⟨v4a, v4n, v4c⟩, ⟨v5a, v5n, v5c⟩, v6, ⟨v7a, v7n, v7c⟩, ⟨v8a, v8n, v8c⟩, v9, ⟨v10a, v10n, v10c⟩⟩ := x
      simp only [Pv.cells, List.getD_cons_zero, List.getD_cons_succ, Nat.add_zero] at c0 c1 c2 c3 c4 c5 c6 c7 c8 c9 c10
      go_wp2_with fail
      refine (rpart_any ⟨v0, ⟨v1a, v1n, v1c⟩, ⟨v2a, v2n, v2c⟩, v3, ⟨v4a, v4n, v4c⟩, ⟨v5a, v5n, v5c⟩, v6, ⟨v7a, v7n, v7c⟩, ⟨v8a, v8n, v8c⟩, v9, ⟨v10a, v10n, v10c⟩⟩ _ _ HPi.out HFi.out).mono ?_
      rintro e w2 ⟨rfl, hb2⟩
      have hB2 : Below w0.heap.size w0 w2 := hbel.trans (hb2.mono hbel.size)
      clear hb2 c0 c1 c2 c3 c4 c5 c6 c7 c8 c9 c10 e3
      rcases hpi : partB (c.pa.getD i Pt.zero)
      · have HN := hid (HNo.out hpi)
        clear HNo HGo hpi
        go_wp2
        go_ret
        exact ⟨by rw [HN.out]; rfl, HB.out.trans (hB2.mono HB.out.size)⟩
      · have HN := hid (HGo.out hpi)
        clear HNo HGo hpi
        go_wp2
        go_roundw
        case rel => exact ⟨i + 1, by omega, by go_num, HN.out, hB2⟩
        case measure => simp [intOf]; omega
    · replace HR := hid (show R = (r5 && r6) by rw [HR.out, allN_yes _ _ (fun j hj => HG.out j (by omega))]; rfl)
      clear HG HC HPT HF
      have e0 := ((HX.out.belowAll hbel).cell 0).trans rfl
      have e1 := ((HX.out.belowAll hbel).cell 1).trans rfl
      have e2 := ((HX.out.belowAll hbel).cell 2).trans rfl
      have e4 := ((HX.out.belowAll hbel).cell 4).trans rfl
      have e5 := ((HX.out.belowAll hbel).cell 5).trans rfl
      go_wp2_with fail
      refine (rwindows_any ⟨fr, sw, ⟨a1, n1, k1⟩, ⟨a2, n2, k2⟩, ⟨a3, n3, k3⟩, ⟨a4, n4, k4⟩⟩ c _ (HS.out.below (HB.out.trans (hbel.mono HB.out.size))) (by rw [← HFR.out]; exact HF1.out.1) (by rw [← HFR.out]; exact HF1.out.2)).mono ?_
      rintro e w5 ⟨rfl, hb5⟩
      rw [R5.out]
      have hb5' := hbel.trans (hb5.mono hbel.size)
      clear e0 e1 e2 e3 e4 e5 hb5
      have e0 := ((HX.out.belowAll hb5').cell 0).trans rfl
      have e1 := ((HX.out.belowAll hb5').cell 1).trans rfl
      have e2 := ((HX.out.belowAll hb5').cell 2).trans rfl
      have e3 := ((HX.out.belowAll hb5').cell 3).trans rfl
      have e4 := ((HX.out.belowAll hb5').cell 4).trans rfl
      have e5 := ((HX.out.belowAll hb5').cell 5).trans rfl
      go_wp2_with fail
      refine (rchannels_any ⟨fr, sw, ⟨a1, n1, k1⟩, ⟨a2, n2, k2⟩, ⟨a3, n3, k3⟩, ⟨a4, n4, k4⟩⟩ c _ (HS.out.below (HB.out.trans (hb5'.mono HB.out.size)))).mono ?_
      rintro e w6 ⟨rfl, hb6⟩
      rw [R6.out]
      have hb6' := hb5'.trans (hb6.mono hb5'.size)
      clear e0 e1 e2 e3 e4 e5 hb6
      cases r5
      · have HN := hid (show R = false by rw [HR.out]; rfl)
        clear HR
        go_wp2
        go_ret
        exact ⟨by rw [HN.out]; rfl, HB.out.trans (hb6'.mono HB.out.size)⟩
      · have HN := hid (show R = r6 by rw [HR.out]; rfl)
        clear HR
        go_wp2
        go_ret
        exact ⟨by rw [HN.out]; rfl, HB.out.trans (hb6'.mono HB.out.size)⟩

end Go.Proofs.Ytfdoejdnhogepaa
