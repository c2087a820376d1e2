/-
  What the document's tests of windows and of a configuration return, whatever they are given, and that nothing that was there is written.
-/
import Derived.Test.YtfdoejdnhogepaaTRefD
namespace Go.Proofs.Ytfdoejdnhogepaa
open Go.RowKit
set_option linter.unusedVariables false

def rwinF (fr : Int) (n : Nat) : Int → List Wn → Bool
  | _, [] => true
  | e, v :: l => inB 0 ((n : Int) - 1) v.p && inB e fr v.st && inB 1 fr v.ln && decide (v.st + v.ln ≤ fr) && rwinF fr n (v.st + v.ln) l
theorem drop_getD (l : List Wn) (i : Nat) (h : i < l.length) : l.drop i = l.getD i Wn.zero :: l.drop (i + 1) := by
  rw [List.drop_eq_getElem_cons h]; simp [List.getD, List.getElem?_eq_getElem h]

set_option maxRecDepth 100000 in
set_option maxHeartbeats 4000000 in
theorem rwindows_any (q : Cv) (c : Cf) (w : World) (hS : CfAt w q c) (hf1 : 1 ≤ c.fr) (hf2 : c.fr ≤ 4096) :
    Calls Try.prog 40 #[q.val] w fun e w' => e = .returned (.bool (inB 1 12 c.wi.length && rwinF c.fr c.pa.length 0 c.wi)) ∧ Below w.heap.size w w' := by
  obtain ⟨fr, sw, ⟨a1, n1, k1⟩, ⟨a2, n2, k2⟩, ⟨a3, n3, k3⟩, ⟨a4, n4, k4⟩⟩ := q
  obtain rfl : fr = c.fr := hS.fr
  obtain ⟨al, cl, hval, hl1, hl2, hlc⟩ := hS.wi.form
  simp only [Sl.val, Value.slice.injEq] at hval
  obtain ⟨rfl, hn3, rfl⟩ := hval
  have hn2 : n2 = c.pa.length ∧ n2 ≤ 9223372036854775807 := by
    obtain ⟨qs, hq, hln, _⟩ := hS.pa
    obtain ⟨_, _, hvq, _, hvm, _⟩ := hq.form
    simp only [Sl.val, Value.slice.injEq] at hvq
    unfold maxLen at hvm
    omega
  unfold maxLen at hl2
  have HC := hid hlc
  have HN3 := hid hn3
  obtain ⟨R, hR⟩ : ∃ r, (inB 1 12 c.wi.length && rwinF c.fr c.pa.length 0 c.wi) = r := ⟨_, rfl⟩
  rw [hR]
  rw [← hn2.1, ← hn3] at hR
  have hn2' := hn2.2
  have HR := hid hR
  clear hlc hS hR hn2
  generalize c.fr = fr at *
  rw [← hn3] at hl1
  clear hn3
  have hB : Below w.heap.size w (w.alloc (.cells #[.int .i64 fr, .int .i64 sw, .slice a1 n1 k1, .slice a2 n2 k2, .slice a3 n3 k3, .slice a4 n4 k4] 27)) := (Below.refl _ _).alloc (Nat.le_refl _) _
  have HB := hid hB
  have HX := hid (BoxAt.new w 27 #[.int .i64 fr, .int .i64 sw, .slice a1 n1 k1, .slice a2 n2 k2, .slice a3 n3 k3, .slice a4 n4 k4])
  clear hB
  unfold Cv.val
  simp only
  go_enter Try.func40, Try.ntmps40
  by_cases g1 : (n3 : Int) < 1
  · have HE := hid (show R = false by
      have : inB 1 12 (n3 : Int) = false := by simp [inB]; omega
      rw [← HR.out, this]; rfl)
    go_wp2
    go_ret
    exact ⟨by rw [HE.out]; rfl, HB.out⟩
  by_cases g2 : (12 : Int) < (n3 : Int)
  · have HE := hid (show R = false by
      have : inB 1 12 (n3 : Int) = false := by simp [inB]; omega
      rw [← HR.out, this]; rfl)
    go_wp2
    go_ret
    exact ⟨by rw [HE.out]; rfl, HB.out⟩
  replace HR := hid (show R = rwinF fr n2 0 c.wi by
      have : inB 1 12 (n3 : Int) = true := by simp [inB]; omega
      rw [← HR.out, this]; rfl)
  go_wp2
  generalize w.alloc (.cells #[.int .i64 fr, .int .i64 sw, .slice a1 n1 k1, .slice a2 n2 k2, .slice a3 n3 k3, .slice a4 n4 k4] 27) = w0 at *
  go_loopw [3, 4] (fun s t wc => ∃ (i : Nat) (e : Int), i ≤ n3 ∧ t = .int .i64 i ∧ s = .int .i64 e ∧ 0 ≤ e ∧ e ≤ 4096 ∧ R = rwinF fr n2 e (c.wi.drop i) ∧ Below w0.heap.size w0 wc) (fun _ t _ => n3 - (intOf t).toNat)
  case atStart => exact ⟨0, 0, by omega, rfl, rfl, by omega, by omega, by rw [HR.out]; rfl, Below.refl _ _⟩
  case round =>
    obtain ⟨i, e, hi, rfl, rfl, he0, he1, hR, hbel⟩ := hrel
    have HRi := hid hR
    clear hR HR
    have e0 := ((HX.out.belowAll hbel).cell 0).trans rfl
    have e3 := ((HX.out.belowAll hbel).cell 3).trans rfl
    have e4 := ((HX.out.belowAll hbel).cell 4).trans rfl
    by_cases hlt : i < n3
    · have hlt' : i < c.wi.length := by rw [← HN3.out]; exact hlt
      obtain ⟨bb, off, rfl, hbw, hcell⟩ := HC.out (by omega)
      have HWr := hid (HB.out.trans (hbel.mono HB.out.size))
      have c0 := (HWr.out.cell (by exact hbw)).trans (hcell i hlt' 0 (by decide))
      have c1 := (HWr.out.cell (by exact hbw)).trans (hcell i hlt' 1 (by decide))
      have c2 := (HWr.out.cell (by exact hbw)).trans (hcell i hlt' 2 (by decide))
      have HD := hid (drop_getD c.wi i hlt')
      clear hcell HC hlt'
      generalize c.wi.getD i Wn.zero = x at *
      obtain ⟨xp, xs, xl⟩ := x
      simp only [Wn.cells, List.getD_cons_zero, List.getD_cons_succ, Nat.add_zero] at c0 c1 c2
      have hA : Below w0.heap.size w0 (wr.alloc (.cells #[.int .i64 xp, .int .i64 xs, .int .i64 xl] 39)) := hbel.alloc hbel.size _
      have HA := hid hA
      have f0 := ((HX.out.belowAll hA).cell 0).trans rfl
      have f3 := ((HX.out.belowAll hA).cell 3).trans rfl
      have HRx := hid (show R = (inB 0 ((n2 : Int) - 1) xp && inB e fr xs && inB 1 fr xl && decide (xs + xl ≤ fr) && rwinF fr n2 (xs + xl) (c.wi.drop (i + 1))) by rw [HRi.out, HD.out, rwinF])
      have HE := hid (show Below w.heap.size w (wr.alloc (.cells #[.int .i64 xp, .int .i64 xs, .int .i64 xl] 39)) from HB.out.trans (hA.mono HB.out.size))
      clear hA HRi HD
      go_wp2_with fail
      refine (rin_any xp 0 ((n2 : Int) - 1) _).mono ?_
      rintro _ _ ⟨rfl, rfl⟩
      go_wp2_with fail
      refine (rin_any xs e fr _).mono ?_
      rintro _ _ ⟨rfl, rfl⟩
      go_wp2_with fail
      refine (rin_any xl 1 fr _).mono ?_
      rintro _ _ ⟨rfl, rfl⟩
      rcases h1 : inB 0 ((n2 : Int) - 1) xp
      · have HN := hid (show R = false by rw [HRx.out, h1]; simp)
        clear HRx
        go_wp2
        go_ret
        exact ⟨by rw [HN.out]; rfl, HE.out⟩
      rcases h2 : inB e fr xs
      · have HN := hid (show R = false by rw [HRx.out, h2]; simp)
        clear HRx
        go_wp2
        go_ret
        exact ⟨by rw [HN.out]; rfl, HE.out⟩
      rcases h3 : inB 1 fr xl
      · have HN := hid (show R = false by rw [HRx.out, h3]; simp)
        clear HRx
        go_wp2
        go_ret
        exact ⟨by rw [HN.out]; rfl, HE.out⟩
      have b2 : e ≤ xs ∧ xs ≤ fr := by simpa [inB] using h2
      have b3 : 1 ≤ xl ∧ xl ≤ fr := by simpa [inB] using h3
      obtain ⟨b21, b22⟩ := b2
      obtain ⟨b31, b32⟩ := b3
      by_cases h4 : fr < xs + xl
      · have HN := hid (show R = false by rw [HRx.out, show decide (xs + xl ≤ fr) = false from decide_eq_false (by omega)]; simp)
        clear HRx
        go_wp2
        go_ret
        exact ⟨by rw [HN.out]; rfl, HE.out⟩
      have HN := hid (show R = rwinF fr n2 (xs + xl) (c.wi.drop (i + 1)) by rw [HRx.out, h1, h2, h3, show decide (xs + xl ≤ fr) = true from decide_eq_true (by omega)]; rfl)
      clear HRx
      go_wp2
      go_roundw
      case rel => exact ⟨i + 1, xs + xl, by omega, by go_num, by go_num, by omega, by omega, HN.out, HA.out⟩
      case measure => simp [intOf]; omega
    · have HE := hid (show R = true by
        rw [HRi.out, List.drop_of_length_le (by rw [← HN3.out]; omega)]; rfl)
      clear HC HRi
      go_wp2
      go_ret
      exact ⟨by rw [HE.out]; rfl, HB.out.trans (hbel.mono HB.out.size)⟩

end Go.Proofs.Ytfdoejdnhogepaa
