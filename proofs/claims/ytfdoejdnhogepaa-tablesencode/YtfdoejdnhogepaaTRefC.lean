/-
  What the document's counts of ports and of ends return, whatever they are given, and that nothing that was there is written.
-/
import Derived.Test.YtfdoejdnhogepaaTRefB
import Derived.Test.YtfdoejdnhogepaaTMay
namespace Go.Proofs.Ytfdoejdnhogepaa
open Go.RowKit
set_option linter.unusedVariables false

def rportsN (pa : List Pt) (p : Int) (qu : Bool) : Nat := if 0 ≤ p ∧ p < pa.length then portsC pa ⟨qu, p, 0⟩ else 0
theorem ports_has (pa : List Pt) (e : En) : inB 0 ((rportsN pa e.p e.qu : Int) - 1) e.o = hasEndC pa e := by
  unfold rportsN hasEndC
  have he : portsC pa ⟨e.qu, e.p, 0⟩ = portsC pa e := rfl
  by_cases h : 0 ≤ e.p ∧ e.p < pa.length
  · rw [if_pos h, he]
    have : inB 0 ((pa.length : Int) - 1) e.p = true := by simp [inB]; omega
    rw [this, Bool.true_and]
  · rw [if_neg h]
    have : inB 0 ((pa.length : Int) - 1) e.p = false := by simp [inB]; omega
    rw [this, Bool.false_and]
    simp [inB]; omega

set_option maxRecDepth 100000 in
set_option maxHeartbeats 1600000 in
theorem rports_any (q : Cv) (c : Cf) (p : Int) (qu : Bool) (w : World) (hS : CfAt w q c) :
    Calls Try.prog 74 #[q.val, .int .i64 p, .bool qu] w fun e w' => e = .returned (.int .i64 (rportsN c.pa p qu)) ∧ Below w.heap.size w w' := by
  obtain ⟨fr, sw, ⟨a1, n1, k1⟩, ⟨a2, n2, k2⟩, ⟨a3, n3, k3⟩, ⟨a4, n4, k4⟩⟩ := q
  obtain ⟨qs, hq, hln, hpt⟩ := hS.pa
  obtain ⟨al, cl, hval, hl1, hl2, hlc⟩ := hq.form
  simp only [Sl.val, Value.slice.injEq] at hval
  obtain ⟨rfl, hn2, rfl⟩ := hval
  unfold maxLen at hl2
  rw [← hn2] at hl1 hlc
  have HNL := hid (show n2 = c.pa.length by omega)
  have HC := hid hlc
  have HPT := hid hpt
  have HR := hid (show rportsN c.pa p qu = if 0 ≤ p ∧ p < (n2 : Int) then portsC c.pa ⟨qu, p, 0⟩ else 0 by rw [HNL.out]; rfl)
  generalize rportsN c.pa p qu = R at *
  have hB : Below w.heap.size w (w.alloc (.cells #[.int .i64 fr, .int .i64 sw, .slice a1 n1 k1, .slice a2 n2 k2, .slice a3 n3 k3, .slice a4 n4 k4] 27)) := (Below.refl _ _).alloc (Nat.le_refl _) _
  have HB := hid hB
  clear hlc hS hpt hq hln hn2
  unfold Cv.val
  simp only
  go_enter Try.func74, Try.ntmps74
  by_cases h0 : p < 0
  · have HE := hid (show R = 0 by rw [HR.out, if_neg (by omega)])
    clear HC HPT HR
    go_wp2
    go_ret
    exact ⟨by rw [HE.out]; rfl, HB.out⟩
  by_cases h1 : (n2 : Int) ≤ p
  · have HE := hid (show R = 0 by rw [HR.out, if_neg (by omega)])
    clear HC HPT HR
    go_wp2
    go_ret
    exact ⟨by rw [HE.out]; rfl, HB.out⟩
  obtain ⟨pn, hpn⟩ : ∃ k : Nat, p = (k : Int) := ⟨p.toNat, by omega⟩
  subst hpn
  have hlt : pn < n2 := by omega
  obtain ⟨b, off, rfl, hbw, hcell⟩ := HC.out (by omega)
  have hx := HPT.out pn (by have := HNL.out; omega)
  obtain ⟨s7, hs7⟩ : ∃ s, (qs.getD pn Pv.zero).v7 = s := ⟨_, rfl⟩
  obtain ⟨s8, hs8⟩ : ∃ s, (qs.getD pn Pv.zero).v8 = s := ⟨_, rfl⟩
  have c7 := (hB.cell (by exact hbw)).trans (hcell pn hlt 7 (by decide))
  have c8 := (hB.cell (by exact hbw)).trans (hcell pn hlt 8 (by decide))
  simp only [Pv.cells, List.getD_cons_zero, List.getD_cons_succ, hs7] at c7
  simp only [Pv.cells, List.getD_cons_zero, List.getD_cons_succ, hs8] at c8
  have hsa := hx.sa.n_eq.1
  have hqu := hx.qu.n_eq.1
  rw [hs7] at hsa
  rw [hs8] at hqu
  obtain ⟨s7a, s7n, s7c⟩ := s7
  obtain ⟨s8a, s8n, s8c⟩ := s8
  have HE := hid (show R = if qu then s8n else s7n by
    rw [HR.out, if_pos (by omega)]
    unfold portsC
    simp only [Int.toNat_natCast]
    simp only at hsa hqu
    rw [hsa, hqu])
  clear hcell HC HPT HR hx hs7 hs8 hsa hqu hB
  simp only at c7 c8
  cases qu
  · go_wp2
    go_ret
    exact ⟨by rw [HE.out]; rfl, HB.out⟩
  · go_wp2
    go_ret
    exact ⟨by rw [HE.out]; rfl, HB.out⟩

def endL7 (l : List Ch) : List En := l.flatMap fun x => [fromE x, toE x]
def endsN (l : List Ch) (e : En) : Nat := (endL7 l).countP (eqE e)
theorem two_eq (p o x y : Int) : (p = x ∧ o = y) ↔ (x == p && y == o) = true := by
  rw [Bool.and_eq_true, beq_iff_eq, beq_iff_eq]
  exact ⟨fun h => ⟨h.1.symm, h.2.symm⟩, fun h => ⟨h.1.symm, h.2.symm⟩⟩
theorem endsN_snoc (l : List Ch) (e : En) (i : Nat) (hi : i < l.length) :
    endsN (l.take (i + 1)) e = endsN (l.take i) e + (if eqE e (fromE (l.getD i Ch.zero)) then 1 else 0) + (if eqE e (toE (l.getD i Ch.zero)) then 1 else 0) := by
  have : l.take (i + 1) = l.take i ++ [l.getD i Ch.zero] := by
    rw [List.take_add_one, List.getElem?_eq_getElem hi]; simp [List.getD, List.getElem?_eq_getElem hi]
  rw [this]
  simp only [endsN, endL7, List.flatMap_append, List.countP_append, List.flatMap_cons, List.flatMap_nil, List.append_nil, List.countP_cons, List.countP_nil]
  omega
theorem endsN_le (l : List Ch) (e : En) (i : Nat) : endsN (l.take i) e ≤ 2 * i := by
  have h1 : endsN (l.take i) e ≤ (endL7 (l.take i)).length := List.countP_le_length
  have h2 : ∀ m : List Ch, (endL7 m).length = 2 * m.length := by
    intro m
    induction m with
    | nil => rfl
    | cons x m ih => simp [endL7] at ih ⊢; omega
  rw [h2] at h1
  have h3 : (l.take i).length ≤ i := List.length_take_le _ _
  omega

set_option maxRecDepth 100000 in
set_option maxHeartbeats 4000000 in
theorem rends_any (q : Cv) (c : Cf) (qu : Bool) (p o : Int) (w : World) (hS : CfAt w q c) (hlen : c.ch.length ≤ 100000) :
    Calls Try.prog 75 #[q.val, .bool qu, .int .i64 p, .int .i64 o] w fun e w' => e = .returned (.int .i64 (endsN c.ch ⟨qu, p, o⟩)) ∧ Below w.heap.size w w' := by
  obtain ⟨fr, sw, ⟨a1, n1, k1⟩, ⟨a2, n2, k2⟩, ⟨a3, n3, k3⟩, ⟨a4, n4, k4⟩⟩ := q
  obtain ⟨al, cl, hval, hl1, hl2, hlc⟩ := hS.ch.form
  simp only [Sl.val, Value.slice.injEq] at hval
  obtain ⟨rfl, rfl, rfl⟩ := hval
  unfold maxLen at hl2
  have HC := hid hlc
  clear hS hlc
  generalize c.ch = l at *
  have hB : Below w.heap.size w (w.alloc (.cells #[.int .i64 fr, .int .i64 sw, .slice a1 n1 k1, .slice a2 n2 k2, .slice a3 n3 k3, .slice a4 l.length k4] 27)) := (Below.refl _ _).alloc (Nat.le_refl _) _
  have HB := hid hB
  have HX := hid (BoxAt.new w 27 #[.int .i64 fr, .int .i64 sw, .slice a1 n1 k1, .slice a2 n2 k2, .slice a3 n3 k3, .slice a4 l.length k4])
  clear hB
  unfold Cv.val
  simp only
  go_enter Try.func75, Try.ntmps75
  go_wp2
  generalize w.alloc (.cells #[.int .i64 fr, .int .i64 sw, .slice a1 n1 k1, .slice a2 n2 k2, .slice a3 n3 k3, .slice a4 l.length k4] 27) = w0 at *
  go_loopw [9, 10] (fun s t wc => ∃ i : Nat, i ≤ l.length ∧ t = .int .i64 i ∧ s = .int .i64 (endsN (l.take i) ⟨qu, p, o⟩) ∧ Below w0.heap.size w0 wc) (fun _ t _ => l.length - (intOf t).toNat)
  case atStart => exact ⟨0, by omega, rfl, rfl, Below.refl _ _⟩
  case round =>
    obtain ⟨i, hi, rfl, rfl, hbel⟩ := hrel
    have e5 := ((HX.out.belowAll hbel).cell 5).trans rfl
    by_cases hlt : i < l.length
    · obtain ⟨bb, off, rfl, hbw, hcell⟩ := HC.out (by omega)
      have HWr := hid (HB.out.trans (hbel.mono HB.out.size))
      have c0 := (HWr.out.cell (by exact hbw)).trans (hcell i hlt 0 (by decide))
      have c1 := (HWr.out.cell (by exact hbw)).trans (hcell i hlt 1 (by decide))
      have c2 := (HWr.out.cell (by exact hbw)).trans (hcell i hlt 2 (by decide))
      have c3 := (HWr.out.cell (by exact hbw)).trans (hcell i hlt 3 (by decide))
      have c4 := (HWr.out.cell (by exact hbw)).trans (hcell i hlt 4 (by decide))
      have HS := hid (endsN_snoc l ⟨qu, p, o⟩ i hlt)
      have hle := endsN_le l ⟨qu, p, o⟩ i
      have hle2 : endsN (l.take i) ⟨qu, p, o⟩ ≤ 200000 := by omega
      clear hle hcell HC
      generalize l.getD i Ch.zero = x at *
      obtain ⟨xq, xf, xa, xt, xb⟩ := x
      simp only [Ch.cells, List.getD_cons_zero, List.getD_cons_succ, Nat.add_zero] at c0 c1 c2 c3 c4
      simp only [fromE, toE, eqE] at HS
      have HA := hid (hbel.alloc hbel.size (.cells #[.bool xq, .int .i64 xf, .int .i64 xa, .int .i64 xt, .int .i64 xb] 41))
      obtain ⟨N1, hN1⟩ : ∃ n, endsN (l.take (i + 1)) ⟨qu, p, o⟩ = n := ⟨_, rfl⟩
      rw [hN1] at HS
      have HN1 := hid hN1
      clear hN1
      generalize endsN (l.take i) ⟨qu, p, o⟩ = N0 at *
      rcases hxq : (xq == qu)
      · have HN := hid (show N1 = N0 by
          have : ¬ qu = xq := fun e => by simp [e] at hxq
          rw [HS.out]; simp [this])
        clear HS
        go_wp2
        go_roundw
        case rel => exact ⟨i + 1, by omega, by go_num, by rw [HN1.out, HN.out], HA.out⟩
        case measure => simp [intOf]; omega
      · have hq2 : qu = xq := by simpa using Eq.symm (eq_of_beq hxq)
        replace HS := hid (show N1 = N0 + (if p = xf ∧ o = xa then 1 else 0) + (if p = xt ∧ o = xb then 1 else 0) by rw [HS.out]; simp [hq2])
        clear hq2
        rcases hf : (xf == p) <;> rcases ha : (xa == o) <;> rcases ht : (xt == p) <;> rcases hb : (xb == o)
        all_goals
          have hN : N1 = N0 + (if (xf == p && xa == o) = true then 1 else 0) + (if (xt == p && xb == o) = true then 1 else 0) := by
            have e1 : (p = xf ∧ o = xa) ↔ (xf == p && xa == o) = true := two_eq _ _ _ _
            have e2 : (p = xt ∧ o = xb) ↔ (xt == p && xb == o) = true := two_eq _ _ _ _
            rw [HS.out]; simp only [e1, e2]
          simp only [hf, ha, ht, hb, Bool.and_true, Bool.and_false, Bool.false_eq_true, if_true, if_false, Nat.add_zero] at hN
          have HN := hid hN
          clear hN HS
          go_wp2
          go_roundw
          case rel => exact ⟨i + 1, by omega, by go_num, by have h := HN.out; rw [HN1.out]; congr 1; omega, HA.out⟩
          case measure => simp [intOf]; omega
    · have hkl : l.take i = l := List.take_of_length_le (by omega)
      have HE := hid hkl
      clear hkl HC
      go_wp2
      go_ret
      exact ⟨by rw [HE.out]; rfl, HB.out.trans (hbel.mono HB.out.size)⟩

end Go.Proofs.Ytfdoejdnhogepaa
