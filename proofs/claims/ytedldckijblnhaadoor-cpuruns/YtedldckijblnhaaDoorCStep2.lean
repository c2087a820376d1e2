/-
  What cpu.Step returns, whatever it is given: what the plain function says.
-/
import Derived.Test.YtedldckijblnhaaDoorCFive
namespace Go.Proofs.YtedldckijblnhaaDoor
open Go.RowKit
set_option linter.unusedVariables false

theorem results_step {fn : Func} {p u q : Tmp} {t1 t2 : TypeId} (h : fn.results = #[.cell p t1, .tmp u, .cell q t2]) (tmps : Array Value) (P : Program) (w : World) (a1 a2 : Addr) (x1 x2 : Value)
    (hp : tmps.getD p undef = .pointer (some a1)) (hq : tmps.getD q undef = .pointer (some a2)) (h1 : (loadVar t1 a1).run P w = .ok x1 w) (h2 : (loadVar t2 a2).run P w = .ok x2 w) :
    (results fn tmps).run P w = .ok (.tuple #[x1, tmps.getD u undef, x2]) w := by
  have hp' : tmps[p]?.getD undef = .pointer (some a1) := by simpa using hp
  have hq' : tmps[q]?.getD undef = .pointer (some a2) := by simpa using hq
  simp [results, h, hp', hq', asAddr, h1, h2]
theorem mach_new (w : World) (c : Co) (wv rv : Value) (now : Int) (t : TypeId) :
    MAt (w.alloc (.cells #[.int .i64 c.p, .int .i64 c.r0, .int .i64 c.r1, .int .i64 c.r2, .int .i64 c.r3, .int .i64 (c.p + 1), wv, rv, .int .i64 now, .int .i64 0, .int .i64 (-1), .bool false, .bool false, .int .i64 0] t)) w.heap.size (mach c wv rv now) := by
  refine ⟨by simp, fun j => by simp, by simp [mach], fun a ha => ?_, by simp [mach], by simp [mach], by simp [mach], by simp [mach], by simp [mach, quietO], by simp [mach, quietO], by simp [mach, quietO], by simp [mach, quietO], by simp [mach, quietO]⟩
  match a, ha with
  | 0, _ => simp [mach, Co.reg]
  | 1, _ => simp [mach, Co.reg]
  | 2, _ => simp [mach, Co.reg]
  | 3, _ => simp [mach, Co.reg]
theorem FiveAt.drew {w : World} {g : Nat} {x0 x1 x2 x3 x4 : Value} (h : FiveAt w g x0 x1 x2 x3 x4) : FiveAt w.drew g x0 x1 x2 x3 x4 := h.below (Below.refl w.heap.size w).drew h.1
theorem five_new (w : World) (v0 v1 v2 v3 v4 : Value) (t : TypeId) : FiveAt (w.alloc (.cells #[v0, v1, v2, v3, v4] t)) w.heap.size v0 v1 v2 v3 v4 :=
  ⟨by simp, fun j => by simp, by simp, by simp, by simp, by simp, by simp⟩
theorem size5 {w : World} {g : Nat} {v0 v1 v2 v3 v4 : Value} : (((((w.setCell ⟨g, 0, none⟩ v0).setCell ⟨g, 1, none⟩ v1).setCell ⟨g, 2, none⟩ v2).setCell ⟨g, 3, none⟩ v3).setCell ⟨g, 4, none⟩ v4).heap.size = w.heap.size := by simp
theorem FiveAt.other5 {w : World} {g g' : Nat} {x0 x1 x2 x3 x4 v0 v1 v2 v3 v4 : Value} (h : FiveAt w g' x0 x1 x2 x3 x4) (e : g' ≠ g) : FiveAt (((((w.setCell ⟨g, 0, none⟩ v0).setCell ⟨g, 1, none⟩ v1).setCell ⟨g, 2, none⟩ v2).setCell ⟨g, 3, none⟩ v3).setCell ⟨g, 4, none⟩ v4) g' x0 x1 x2 x3 x4 :=
  ((((h.other e).other e).other e).other e).other e
theorem FiveAt.set5 {w : World} {g : Nat} {x0 x1 x2 x3 x4 v0 v1 v2 v3 v4 : Value} (h : FiveAt w g x0 x1 x2 x3 x4) : FiveAt (((((w.setCell ⟨g, 0, none⟩ v0).setCell ⟨g, 1, none⟩ v1).setCell ⟨g, 2, none⟩ v2).setCell ⟨g, 3, none⟩ v3).setCell ⟨g, 4, none⟩ v4) g v0 v1 v2 v3 v4 :=
  h.set0.set1.set2.set3.set4
theorem owns5 {w : World} {base g : Nat} {e : TypeId} {v : Value} {n : Nat} {xs : List Value} {v0 v1 v2 v3 v4 : Value} (h : w.ownsRow base e 1 v n xs) (hg : g < base) : (((((w.setCell ⟨g, 0, none⟩ v0).setCell ⟨g, 1, none⟩ v1).setCell ⟨g, 2, none⟩ v2).setCell ⟨g, 3, none⟩ v3).setCell ⟨g, 4, none⟩ v4).ownsRow base e 1 v n xs :=
  ownsRow_setCell_below (ownsRow_setCell_below (ownsRow_setCell_below (ownsRow_setCell_below (ownsRow_setCell_below h (a := ⟨g, 0, none⟩) hg _) (a := ⟨g, 1, none⟩) hg _) (a := ⟨g, 2, none⟩) hg _) (a := ⟨g, 3, none⟩) hg _) (a := ⟨g, 4, none⟩) hg _
theorem below5 {B g : Nat} {a w : World} {v0 v1 v2 v3 v4 : Value} (h : Below B a w) (hg : B ≤ g) : Below B a (((((w.setCell ⟨g, 0, none⟩ v0).setCell ⟨g, 1, none⟩ v1).setCell ⟨g, 2, none⟩ v2).setCell ⟨g, 3, none⟩ v3).setCell ⟨g, 4, none⟩ v4) :=
  ((((h.setCell hg _).setCell hg _).setCell hg _).setCell hg _).setCell hg _

/-- What a step of the document's leaves as words: xs, in the slice vm that came in, or in a new one. -/
def SeesF (w : World) (vm : Value) (w' : World) (u : Value) (xs : List Int) : Prop := Sees w' .i64 u xs ∧ (u = vm ∨ w'.ownsRow w.heap.size 3 1 u xs.length (xs.map (Value.int .i64)))
theorem SeesF.of_owns {w w' : World} {vm u : Value} {base : Nat} {xs : List Int} (h : w'.ownsRow base 3 1 u xs.length (xs.map (Value.int .i64))) (hb : w.heap.size ≤ base) : SeesF w vm w' u xs := ⟨Sees.of_owns h, .inr (owns_base h hb)⟩

set_option maxRecDepth 100000 in
set_option maxHeartbeats 3200000 in
theorem step_own (vc vm vl : Value) (code : List In) (c : Co) (m : List Int) (l : List Rg) (now : Int) (w : World) (hL : Laid w) (hcv : SeesI w vc code) (hmv : Sees w .i64 vm m) (hlv : SeesR w vl l) (hc : c.fit) (hl : ∀ r ∈ l, r.fit) (hlen : m.length ≤ 100000) :
    Calls Tryd.prog 12 #[vc, c.val, vm, vl, .int .i64 now] w fun e w' => ∃ u, e = .returned (.tuple #[(stepS code c m l now).1.val, u, (stepS code c m l now).2.2.val]) ∧ w'.ownsRow w.heap.size 3 1 u (stepS code c m l now).2.1.length ((stepS code c m l now).2.1.map (Value.int .i64)) ∧ Below w.heap.size w w' := by
  have hmf : ∀ (fn : Fn) (first cap : Array Value) (w : World), (Instr.makeFunc fn first cap).run Tryd.prog w = .ok (.func fn first cap) w := fun _ _ _ _ => rfl
  obtain ⟨p, r0, r1, r2, r3⟩ := c
  obtain ⟨⟨rc, rm, ro⟩, hR⟩ : ∃ R, stepS code ⟨p, r0, r1, r2, r3⟩ m l now = R := ⟨_, rfl⟩
  rw [hR]
  have HBADST := hid (show ¬ (0 ≤ p ∧ p < code.length ∧ mayI (code.getD p.toNat In.zero) = true) → rc = ⟨p, r0, r1, r2, r3⟩ ∧ rm = m ∧ ro = faultO 4 by
    intro h
    rw [stepS, if_neg h] at hR
    simp only [Prod.mk.injEq] at hR
    exact ⟨hR.1.symm, hR.2.1.symm, hR.2.2.symm⟩)
  have HOKST := hid (show (0 ≤ p ∧ p < code.length ∧ mayI (code.getD p.toNat In.zero) = true) → stepI (code.getD p.toNat In.zero) ⟨p, r0, r1, r2, r3⟩ m l now = (rc, rm, ro) by
    intro h
    rw [stepS, if_pos h] at hR
    exact hR)
  clear hR
  obtain ⟨al, cl, rfl, _, _, _⟩ := hlv.form
  obtain ⟨W, hW⟩ : ∃ W, W = ((w.alloc (.cells #[.int .i64 p, .int .i64 r0, .int .i64 r1, .int .i64 r2, .int .i64 r3] 25)).alloc (.cells #[.int .i64 0, .int .i64 0, .int .i64 0, .int .i64 0, .int .i64 0] 25)).alloc (.cells #[.int .i64 0, .int .i64 0, .bool false, .bool false, .int .i64 0] 31) := ⟨_, rfl⟩
  have hWs : W.heap.size = w.heap.size + 3 := by rw [hW]; simp
  have hbW : Below w.heap.size w W := by rw [hW]; exact ((alloc_belowI _ _).alloc (by simp) _).alloc (by simp; omega) _
  have F0 : CoAt W w.heap.size ⟨p, r0, r1, r2, r3⟩ := by
    rw [hW]; exact ((five_new w _ _ _ _ _ _).below (alloc_belowI _ _) (by simp)).below (alloc_belowI _ _) (by simp; omega)
  have F1 : FiveAt W (w.heap.size + 1) (.int .i64 0) (.int .i64 0) (.int .i64 0) (.int .i64 0) (.int .i64 0) := by
    rw [hW]
    have h := five_new (w.alloc (.cells #[.int .i64 p, .int .i64 r0, .int .i64 r1, .int .i64 r2, .int .i64 r3] 25)) (.int .i64 0) (.int .i64 0) (.int .i64 0) (.int .i64 0) (.int .i64 0) 25
    rw [show (w.alloc (.cells #[.int .i64 p, .int .i64 r0, .int .i64 r1, .int .i64 r2, .int .i64 r3] 25)).heap.size = w.heap.size + 1 by simp] at h
    exact h.below (alloc_belowI _ _) (by simp)
  have F2 : FiveAt W (w.heap.size + 1 + 1) (.int .i64 0) (.int .i64 0) (.bool false) (.bool false) (.int .i64 0) := by
    rw [hW]
    have h := five_new ((w.alloc (.cells #[.int .i64 p, .int .i64 r0, .int .i64 r1, .int .i64 r2, .int .i64 r3] 25)).alloc (.cells #[.int .i64 0, .int .i64 0, .int .i64 0, .int .i64 0, .int .i64 0] 25)) (.int .i64 0) (.int .i64 0) (.bool false) (.bool false) (.int .i64 0) 31
    rw [show ((w.alloc (.cells #[.int .i64 p, .int .i64 r0, .int .i64 r1, .int .i64 r2, .int .i64 r3] 25)).alloc (.cells #[.int .i64 0, .int .i64 0, .int .i64 0, .int .i64 0, .int .i64 0] 25)).heap.size = w.heap.size + 1 + 1 by simp] at h
    exact h
  obtain ⟨G1, hG1⟩ : ∃ g, w.heap.size + 1 = g := ⟨_, rfl⟩
  obtain ⟨G2, hG2⟩ : ∃ g, w.heap.size + 1 + 1 = g := ⟨_, rfl⟩
  rw [hG1] at F1
  rw [hG2] at F2
  have HW := hid hW
  have HWS := hid hWs
  have HG1 := hid hG1
  have HG2 := hid hG2
  have HF0 := hid F0
  have HF1 := hid F1
  have HF2 := hid F2
  have HBW := hid hbW
  have HMV := hid (show ∀ w', Below G1 W w' → Sees w' .i64 vm m from fun w' h => hmv.below (hbW.trans (h.mono (by omega))))
  have HCV := hid hcv
  have HLV := hid hlv
  have HLA := hid hL
  have HCF := hid hc
  have HLF := hid hl
  have MK := hid (show ∀ w', Below G1 W w' → Below G1 W w' ∧ w'.cell? ⟨w.heap.size, 0, none⟩ = some (.int .i64 p) ∧ w'.cell? ⟨w.heap.size, 1, none⟩ = some (.int .i64 r0) ∧ w'.cell? ⟨w.heap.size, 2, none⟩ = some (.int .i64 r1) ∧ w'.cell? ⟨w.heap.size, 3, none⟩ = some (.int .i64 r2) ∧ w'.cell? ⟨w.heap.size, 4, none⟩ = some (.int .i64 r3) by
    intro w' h
    obtain ⟨_, _, a0, a1, a2, a3, a4⟩ := F0.below h (by omega)
    exact ⟨h, a0, a1, a2, a3, a4⟩)
  have HQ := hid (show ∀ w7 : World, Below W.drew.heap.size W.drew w7 → FiveAt w7 G1 (.int .i64 0) (.int .i64 0) (.int .i64 0) (.int .i64 0) (.int .i64 0) ∧ FiveAt w7 G2 (.int .i64 0) (.int .i64 0) (.bool false) (.bool false) (.int .i64 0) by
    intro w7 h
    have h' : Below W.heap.size W w7 := (Below.refl W.heap.size W).drew.trans h
    exact ⟨F1.below h' (by omega), F2.below h' (by omega)⟩)
  have HBEG := hid (show ∀ (w7 : World) (ua : Option Addr) (ul uc : Nat), Below W.drew.heap.size W.drew w7 → w7.ownsRow W.drew.heap.size 3 1 (.slice ua ul uc) m.length (m.map (Value.int .i64)) →
      Begun w ((((((((((w7.setCell ⟨G1, 0, none⟩ (.int .i64 p)).setCell ⟨G1, 1, none⟩ (.int .i64 r0)).setCell ⟨G1, 2, none⟩ (.int .i64 r1)).setCell ⟨G1, 3, none⟩ (.int .i64 r2)).setCell ⟨G1, 4, none⟩ (.int .i64 r3)).setCell ⟨G2, 0, none⟩ (.int .i64 0)).setCell ⟨G2, 1, none⟩ (.int .i64 (-1))).setCell ⟨G2, 2, none⟩ (.bool false)).setCell ⟨G2, 3, none⟩ (.bool false)).setCell ⟨G2, 4, none⟩ (.int .i64 0)) ⟨p, r0, r1, r2, r3⟩ m (.slice ua ul uc) by
    intro w7 ua ul uc h ho
    have h' : Below W.heap.size W w7 := (Below.refl W.heap.size W).drew.trans h
    have f0 := FiveAt.below F0 h' (by omega)
    have f1 := F1.below h' (by omega)
    have f2 := F2.below h' (by omega)
    have hs7 := h'.size
    refine ⟨ua, ul, uc, rfl, ?_, ?_, ?_, ?_, ?_, ?_⟩
    · exact owns5 (owns5 (owns_base (base' := w.heap.size + 3) ho (by show _ ≤ W.heap.size; omega)) (by omega)) (by omega)
    · exact FiveAt.other5 (FiveAt.other5 f0 (by omega)) (by omega)
    · rw [hG1]; exact FiveAt.other5 (FiveAt.set5 f1) (by omega)
    · rw [show w.heap.size + 2 = G2 from hG2]; exact FiveAt.set5 (FiveAt.other5 f2 (by omega))
    · exact below5 (below5 (hbW.trans (h'.mono (by omega))) (by omega)) (by omega)
    · rw [size5, size5]; omega)
  have hn1 : G1 ≠ G2 := by omega
  have hn2 : G2 ≠ G1 := by omega
  have hn3 : w.heap.size ≠ G1 := by omega
  have hn4 : w.heap.size ≠ G2 := by omega
  have HLE1 := hid (show G1 ≤ G1 by omega)
  have HLE2 := hid (show G1 ≤ G2 by omega)
  have HLE3 := hid (show G1 ≤ W.drew.heap.size by show G1 ≤ W.heap.size; omega)
  clear hW hWs hG1 hG2 F0 F1 F2 hbW hmv hcv hlv hL hc hl
  rw [show Co.val ⟨p, r0, r1, r2, r3⟩ = .agg #[.int .i64 p, .int .i64 r0, .int .i64 r1, .int .i64 r2, .int .i64 r3] from rfl]
  go_enter_defers Tryd.func12, Tryd.ntmps12
  go_wp2_with fail
  rw [← HW.out]
  rw [HG2.out, HG1.out]
  go_cut [11] from 15 to 18 (fun s wx => Begun w wx ⟨p, r0, r1, r2, r3⟩ m s)
  case first =>
    go_region_held3 (fun w' => Below G1 W w' ∧ w'.cell? ⟨w.heap.size, 0, none⟩ = some (.int .i64 p) ∧ w'.cell? ⟨w.heap.size, 1, none⟩ = some (.int .i64 r0) ∧ w'.cell? ⟨w.heap.size, 2, none⟩ = some (.int .i64 r1) ∧ w'.cell? ⟨w.heap.size, 3, none⟩ = some (.int .i64 r2) ∧ w'.cell? ⟨w.heap.size, 4, none⟩ = some (.int .i64 r3))
      ((go_split_ands; refine MK.out _ ?_; first
        | with_reducible assumption
        | with_reducible exact below5 (by assumption) HLE1.out
        | with_reducible exact below5 (by assumption) HLE2.out
        | with_reducible exact Below.trans (by assumption) (Below.mono hb7 HLE3.out)
        | with_reducible exact (Below.refl _ _).drew))
      ((go_split_ands; first
        | (go_at_call 19
           refine (clone_owns _ m _ (HMV.out _ (by assumption)) hlen).mono ?_
           rintro e w7 ⟨ua, ul, uc, rfl, ho7, hb7⟩
           obtain ⟨⟨_, f1, a0, a1, a2, a3, a4⟩, ⟨_, f2, b0, b1, b2, b3, b4⟩⟩ := HQ.out _ hb7)))
    all_goals
      go_wp2_with fail
      go_meet
      exact HBEG.out _ _ _ _ hb7 ho7
  case rest =>
    obtain ⟨ua, ul, uc, rfl, ho, hc0, hc1, ho2, hbx, hsz⟩ := hcut
    have d0 := hc0.2.2.1
    rw [HG1.out] at hc1
    rw [show w.heap.size + 2 = G2 from HG2.out] at ho2
    have HO := hid ho
    have HC1 := hid hc1
    have HO2 := hid ho2
    have HBX := hid hbx
    have HSZ := hid hsz
    have HC0 := hid hc0
    have HLAC := hid (HLA.out.below hbx)
    have HCVC := hid (HCV.out.below hbx)
    have hG12 : G1 < wc.heap.size := hc1.1
    have hG22 : G2 < wc.heap.size := ho2.1
    clear ho hc0 hc1 ho2 hbx hsz
    by_cases hok : 0 ≤ p ∧ p < code.length ∧ mayI (code.getD p.toNat In.zero) = true
    · have HOK := hid hok
      have HST := hid (HOKST.out hok)
      obtain ⟨k1, k2, k3⟩ := hok
      obtain ⟨k, rfl⟩ := Int.eq_ofNat_of_zero_le k1
      have k4 : k < code.length := by omega
      have hcl := HCV.out.le
      unfold maxLen at hcl
      have k5 : (k : Int) + 1 ≤ 9223372036854775807 := by omega
      have k6 : -9223372036854775808 ≤ (k : Int) + 1 := by omega
      rw [Int.toNat_natCast] at k3 HST
      have HF := hid (fetch_ok vc code k wc HLAC.out HCVC.out k4 k3)
      have HK3 := hid k3
      clear k3 k1 k2 hcl
      generalize code.getD k In.zero = i at *
      obtain ⟨o, A, B⟩ := i
      have hc0 := HC0.out
      have ho2 := HO2.out
      unfold In.val at HF
      simp only at HF
      go_wp2_with fail
      refine HF.out.mono ?_
      rintro e wf ⟨rfl, hbf⟩
      obtain ⟨_, _, e0, e1, e2, e3, e4⟩ := hc0.below hbf hc0.1
      obtain ⟨_, _, x0, x1, x2, x3, x4⟩ := ho2.below hbf ho2.1
      simp only [quietO] at x0 x1 x2 x3 x4
      simp only at e0 e1 e2 e3 e4
      clear hc0 ho2 d0
      have hA : Below wc.heap.size wc ((wf.alloc (.cells #[.int .i64 o, .int .i64 A, .int .i64 B] 44)).alloc (.cells #[.int .i64 k, .int .i64 r0, .int .i64 r1, .int .i64 r2, .int .i64 r3, .int .i64 (k + 1), .slice ua ul uc, .slice al l.length cl, .int .i64 now, .int .i64 0, .int .i64 (-1), .bool false, .bool false, .int .i64 0] 57)) :=
        (hbf.alloc hbf.size _).alloc (by have := hbf.size; simp; omega) _
      have hN : wc.heap.size ≤ wf.heap.size + 1 := by have := hbf.size; omega
      have hmat := mach_new (wf.alloc (.cells #[.int .i64 o, .int .i64 A, .int .i64 B] 44)) ⟨k, r0, r1, r2, r3⟩ (.slice ua ul uc) (.slice al l.length cl) now 57
      rw [show (wf.alloc (.cells #[.int .i64 o, .int .i64 A, .int .i64 B] 44)).heap.size = wf.heap.size + 1 by simp] at hmat
      have HMA := hid hmat
      have HA := hid hA
      have HN := hid hN
      clear hA hmat hbf hN
      go_wp2_with fail
      refine (run_any ⟨o, A, B⟩ ⟨k, r0, r1, r2, r3⟩ m l now (wf.heap.size + 1) (.slice ua ul uc) (.slice al l.length cl) _ HK3.out HCF.out HLF.out hlen HMA.out (w.heap.size + 3)
        (fun w' h => owns_below HO.out (HA.out.trans (h.mono HN.out))) (fun w' h => (HLV.out.below HBX.out).below (HA.out.trans (h.mono HN.out))) (by have := HN.out; have := HSZ.out; omega)).mono ?_
      rintro e w9 (⟨f, hf, rfl, hst, hb9⟩ | ⟨M', rfl, hm9, hmc, hmo, hse, hb9⟩)
      · have hbz := HA.out.trans (hb9.mono HN.out)
        rw [HST.out] at hst
        simp only [Prod.mk.injEq] at hst
        have HQ1 := hid hst.1
        have HQ2 := hid hst.2.1
        have HQ3 := hid hst.2.2
        clear hst hb9
        unfold faultE
        have g1 := HC1.out.below hbz hG12
        have g2 := HO2.out.below hbz hG22
        have HL1 := hid ((FiveAt.other (v := .int .i64 f) (j := 0) g1 hn1).load 25 _ Tryd.underlying25 rfl (by kernel_rfl))
        have HL2 := hid ((FiveAt.set0 (v := .int .i64 f) g2).load 31 _ Tryd.underlying31 rfl (by kernel_rfl))
        have HSE := hid (ownsRow_setCell_below (owns_below HO.out hbz) (a := ⟨G2, 0, none⟩) (show G2 < w.heap.size + 3 by have := HG2.out; omega) (.int .i64 f))
        have HBZ := hid ((HBX.out.trans (Below.mono hbz (by have := HSZ.out; omega))).setCell (p := ⟨G2, 0, none⟩) (by show w.heap.size ≤ G2; have := HG2.out; omega) (.int .i64 f))
        have z0 := g2.2.2.1
        have z1 := g2.2.1 0
        clear g1 g2
        go_wp2
        refine leaves_cons (f := 20) (args := #[.pointer (some ⟨G2, 0, none⟩)]) (by simp) (by simp [go_sem]) ?_
        refine (step_catch G2 f _ [] w9 z0 z1).mono ?_
        rintro e u' w'' ⟨rfl, rfl, rfl⟩
        simp [Leaves, settle]
        refine ⟨_, results_step rfl _ _ _ ⟨G1, 0, none⟩ ⟨G2, 0, none⟩ _ _ rfl rfl HL1.out HL2.out, .slice ua ul uc, ?_, ?_, HBZ.out⟩
        · rw [HQ1.out, HQ3.out]; rfl
        · rw [HQ2.out]; exact owns_base HSE.out (by omega)
      · have hbz := HA.out.trans (hb9.mono HN.out)
        rw [HST.out] at hmc hmo hse
        simp only at hmc hmo hse
        have g1 := HC1.out.below hbz hG12
        have g2 := HO2.out.below hbz hG22
        have hgN1 : G1 ≠ wf.heap.size + 1 := by have := HN.out; omega
        have hgN2 : G2 ≠ wf.heap.size + 1 := by have := HN.out; omega
        have HBZ := hid (below5 (g := G2) (v0 := .int .i64 ro.f) (v1 := .int .i64 ro.c) (v2 := .bool ro.h) (v3 := .bool ro.r) (v4 := .int .i64 ro.v) (below5 (g := G1) (v0 := .int .i64 rc.p) (v1 := .int .i64 rc.r0) (v2 := .int .i64 rc.r1) (v3 := .int .i64 rc.r2) (v4 := .int .i64 rc.r3) (HBX.out.trans (Below.mono hbz (by have := HSZ.out; omega))) (by have := HG1.out; omega)) (by have := HG2.out; omega))
        have HSE := hid (owns5 (g := G2) (v0 := .int .i64 ro.f) (v1 := .int .i64 ro.c) (v2 := .bool ro.h) (v3 := .bool ro.r) (v4 := .int .i64 ro.v) (owns5 (g := G1) (v0 := .int .i64 rc.p) (v1 := .int .i64 rc.r0) (v2 := .int .i64 rc.r1) (v3 := .int .i64 rc.r2) (v4 := .int .i64 rc.r3) hse (by have := HG1.out; omega)) (by have := HG2.out; omega))
        have HL1 := hid ((FiveAt.other5 (g := G2) (v0 := .int .i64 ro.f) (v1 := .int .i64 ro.c) (v2 := .bool ro.h) (v3 := .bool ro.r) (v4 := .int .i64 ro.v) (FiveAt.set5 (v0 := .int .i64 rc.p) (v1 := .int .i64 rc.r0) (v2 := .int .i64 rc.r1) (v3 := .int .i64 rc.r2) (v4 := .int .i64 rc.r3) g1) hn1).drew)
        have HL2 := hid ((FiveAt.set5 (v0 := .int .i64 ro.f) (v1 := .int .i64 ro.c) (v2 := .bool ro.h) (v3 := .bool ro.r) (v4 := .int .i64 ro.v) (FiveAt.other5 (g := G1) (v0 := .int .i64 rc.p) (v1 := .int .i64 rc.r0) (v2 := .int .i64 rc.r1) (v3 := .int .i64 rc.r2) (v4 := .int .i64 rc.r3) g2 hn2)).drew)
        obtain ⟨_, y1, y2, y3, y4, y5, y6⟩ := g1
        obtain ⟨_, t1, t2, t3, t4, t5, t6⟩ := g2
        obtain ⟨_, _, n2, n3, n4, n5, n6, n7, n8, n9, n10, n11, n12⟩ := hm9
        have i0 := n3 0 (by omega)
        have i1 := n3 1 (by omega)
        have i2 := n3 2 (by omega)
        have i3 := n3 3 (by omega)
        rw [hmc] at n2 i0 i1 i2 i3
        rw [hmo] at n8 n9 n10 n11 n12
        simp only [Co.reg] at i0 i1 i2 i3
        clear n3 n4 n6 n7 hmc hmo hbz hb9 hse
        go_wp2_with fail
        go_region
        all_goals
          go_wp2
          refine leaves_cons (f := 20) (args := #[.pointer (some ⟨G2, 0, none⟩)]) (by simp) (by simp [go_sem]) ?_
          refine (step_idle G2 _).mono ?_
          rintro e u' w'' ⟨rfl, rfl, rfl⟩
          simp [Leaves, settle]
          refine ⟨_, results_step rfl _ _ _ ⟨G1, 0, none⟩ ⟨G2, 0, none⟩ _ _ rfl rfl (HL1.out.load 25 _ Tryd.underlying25 rfl (by kernel_rfl)) (HL2.out.load 31 _ Tryd.underlying31 rfl (by kernel_rfl)), M'.wv, rfl, owns_below (owns_base HSE.out (by omega)) (Below.refl _ _).drew, HBZ.out.drew⟩
    · obtain ⟨q1, q2, q3⟩ := HBADST.out hok
      have HQ1 := hid q1
      have HQ2 := hid q2
      have HQ3 := hid q3
      have HBAD := hid hok
      clear hok q1 q2 q3
      go_wp2_with fail
      refine (fetch_bad vc code p wc HLAC.out HCVC.out HBAD.out).mono ?_
      rintro e wz ⟨rfl, hbz⟩
      unfold faultE
      have g1 := HC1.out.below hbz hG12
      have g2 := HO2.out.below hbz hG22
      have HL1 := hid ((FiveAt.other (v := .int .i64 4) (j := 0) g1 hn1).load 25 _ Tryd.underlying25 rfl (by kernel_rfl))
      have HL2 := hid ((FiveAt.set0 (v := .int .i64 4) g2).load 31 _ Tryd.underlying31 rfl (by kernel_rfl))
      have HSE := hid (ownsRow_setCell_below (owns_below HO.out hbz) (a := ⟨G2, 0, none⟩) (show G2 < w.heap.size + 3 by have := HG2.out; omega) (.int .i64 4))
      have HBZ := hid ((HBX.out.trans (Below.mono hbz (by have := HSZ.out; omega))).setCell (p := ⟨G2, 0, none⟩) (by show w.heap.size ≤ G2; have := HG2.out; omega) (.int .i64 4))
      have z0 := g2.2.2.1
      have z1 := g2.2.1 0
      clear g1 g2
      go_wp2
      refine leaves_cons (f := 20) (args := #[.pointer (some ⟨G2, 0, none⟩)]) (by simp) (by simp [go_sem]) ?_
      refine (step_catch G2 4 _ [] wz z0 z1).mono ?_
      rintro e u' w'' ⟨rfl, rfl, rfl⟩
      simp [Leaves, settle]
      refine ⟨_, results_step rfl _ _ _ ⟨G1, 0, none⟩ ⟨G2, 0, none⟩ _ _ rfl rfl HL1.out HL2.out, .slice ua ul uc, ?_, ?_, HBZ.out⟩
      · rw [HQ1.out, HQ3.out]; rfl
      · rw [HQ2.out]; exact owns_base HSE.out (by omega)

theorem step_any (vc vm vl : Value) (code : List In) (c : Co) (m : List Int) (l : List Rg) (now : Int) (w : World) (hL : Laid w) (hcv : SeesI w vc code) (hmv : Sees w .i64 vm m) (hlv : SeesR w vl l) (hc : c.fit) (hl : ∀ r ∈ l, r.fit) (hlen : m.length ≤ 100000) :
    Calls Tryd.prog 12 #[vc, c.val, vm, vl, .int .i64 now] w fun e w' => ∃ u, e = .returned (.tuple #[(stepS code c m l now).1.val, u, (stepS code c m l now).2.2.val]) ∧ Sees w' .i64 u (stepS code c m l now).2.1 ∧ Below w.heap.size w w' := by
  refine (step_own vc vm vl code c m l now w hL hcv hmv hlv hc hl hlen).mono ?_
  rintro e w' ⟨u, he, ho, hb⟩
  exact ⟨u, he, Sees.of_owns ho, hb⟩
end Go.Proofs.YtedldckijblnhaaDoor
