/-
  What the document's tests of numbers, processes, buffers, semaphores and of a partition's table return, whatever they are given, and that nothing that was there is written.
-/
import Derived.Test.YtfdoejdnhogepaaTPart
import Derived.Test.YtfdoejdnhogepaaMRefM
namespace Go.Proofs.Ytfdoejdnhogepaa
open Go.RowKit
set_option linter.unusedVariables false


set_option maxRecDepth 100000 in
set_option maxHeartbeats 400000 in
theorem rin_any (n a b : Int) (w : World) :
    Calls Try.prog 37 #[.int .i64 n, .int .i64 a, .int .i64 b] w fun e w' => e = .returned (.bool (inB a b n)) ∧ w' = w := by
  go_enter Try.func37, Try.ntmps37
  by_cases h1 : a ≤ n
  · by_cases h2 : n ≤ b
    all_goals
      go_wp2
      go_ret
      exact ⟨by congr; simp [inB]; omega, rfl⟩
  · go_wp2
    go_ret
    exact ⟨by congr; simp [inB]; omega, rfl⟩

set_option maxRecDepth 100000 in
set_option maxHeartbeats 400000 in
theorem rnumbers_any (v : Value) (l : List Int) (m a b : Int) (w : World) (hv : Sees w .i64 v l) :
    Calls Try.prog 38 #[v, .int .i64 m, .int .i64 a, .int .i64 b] w fun e w' => e = .returned (.bool (decide ((l.length : Int) ≤ m) && allN (fun i => inB a b (l.getD i 0)) l.length)) ∧ w' = w := by
  obtain ⟨al, cl, rfl, hl1, hl2, hlc⟩ := hv.form
  unfold maxLen at hl2
  have HC := hid hlc
  clear hlc hv
  go_enter Try.func38, Try.ntmps38
  by_cases hm : m < (l.length : Int)
  · go_wp2
    go_ret
    exact ⟨by congr; simp; omega, rfl⟩
  go_wp2
  go_loopw [9] (fun t wc => ∃ i : Nat, i ≤ l.length ∧ t = .int .i64 i ∧ (∀ j, j < i → inB a b (l.getD j 0) = true) ∧ wc = w) (fun t _ => l.length - (intOf t).toNat)
  case atStart => exact ⟨0, by omega, rfl, by intro j hj; omega, rfl⟩
  case round =>
    obtain ⟨i, hi, rfl, hgood, hwc⟩ := hrel
    subst hwc
    have HG := hid hgood
    clear hgood
    by_cases hlt : i < l.length
    · obtain ⟨bb, off, rfl, hbw, hcell⟩ := HC.out (by omega)
      have c0 := hcell i hlt
      have HNo := hid (show inB a b (l.getD i 0) = false → allN (fun i => inB a b (l.getD i 0)) l.length = false from fun h => allN_no _ _ i hlt h)
      have HGo := hid (show inB a b (l.getD i 0) = true → ∀ j, j < i + 1 → inB a b (l.getD j 0) = true by
        intro h j hj
        by_cases e : j = i
        · subst e; exact h
        · exact HG.out j (by omega))
      clear hcell HC HG
      generalize l.getD i 0 = x at *
      go_wp2_with fail
      refine (rin_any x a b _).mono ?_
      rintro e w1 ⟨rfl, rfl⟩
      rcases hx : inB a b x
      · have HN := hid (HNo.out hx)
        clear HNo HGo
        go_wp2
        go_ret
        exact ⟨by rw [HN.out, Bool.and_false]; rfl, rfl⟩
      · have HN := hid (HGo.out hx)
        clear HNo HGo
        go_wp2
        go_roundw
        case rel => exact ⟨i + 1, by omega, by go_num, HN.out, by trivial⟩
        case measure => simp [intOf]; omega
    · have HE := hid (show allN (fun i => inB a b (l.getD i 0)) l.length = true from allN_yes _ _ (fun j hj => HG.out j (by omega)))
      have HD := hid (show decide ((l.length : Int) ≤ m) = true from decide_eq_true (by omega))
      go_wp2
      go_ret
      exact ⟨by rw [HE.out, HD.out]; rfl, rfl⟩

set_option maxRecDepth 100000 in
set_option maxHeartbeats 800000 in
theorem rprocs_any (v : Value) (l : List Pc) (w : World) (hv : SeesPc w v l) :
    Calls Try.prog 72 #[v] w fun e w' => e = .returned (.bool (inB 1 6 l.length && allN (fun i => procB (l.getD i Pc.zero)) l.length)) ∧ w' = w := by
  obtain ⟨al, cl, rfl, hl1, hl2, hlc⟩ := hv.form
  unfold maxLen at hl2
  have HC := hid hlc
  clear hlc hv
  go_enter Try.func72, Try.ntmps72
  by_cases hm : (l.length : Int) < 1
  · have HE := hid (show inB 1 6 (l.length : Int) = false by simp [inB]; omega)
    go_wp2
    go_ret
    exact ⟨by rw [HE.out]; rfl, rfl⟩
  by_cases hm2 : (6 : Int) < (l.length : Int)
  · have HE := hid (show inB 1 6 (l.length : Int) = false by simp [inB]; omega)
    go_wp2
    go_ret
    exact ⟨by rw [HE.out]; rfl, rfl⟩
  have HI := hid (show inB 1 6 (l.length : Int) = true by simp [inB]; omega)
  go_wp2
  go_loopw [3] (fun t wc => ∃ i : Nat, i ≤ l.length ∧ t = .int .i64 i ∧ (∀ j, j < i → procB (l.getD j Pc.zero) = true) ∧ wc = w) (fun t _ => l.length - (intOf t).toNat)
  case atStart => exact ⟨0, by omega, rfl, by intro j hj; omega, rfl⟩
  case round =>
    obtain ⟨i, hi, rfl, hgood, hwc⟩ := hrel
    subst hwc
    have HG := hid hgood
    clear hgood
    by_cases hlt : i < l.length
    · obtain ⟨bb, off, rfl, hbw, hcell⟩ := HC.out (by omega)
      have c0 := hcell i hlt 0 (by decide)
      have c1 := hcell i hlt 1 (by decide)
      have c2 := hcell i hlt 2 (by decide)
      have c3 := hcell i hlt 3 (by decide)
      have HNo := hid (show procB (l.getD i Pc.zero) = false → allN (fun i => procB (l.getD i Pc.zero)) l.length = false from fun h => allN_no _ _ i hlt h)
      have HGo := hid (show procB (l.getD i Pc.zero) = true → ∀ j, j < i + 1 → procB (l.getD j Pc.zero) = true by
        intro h j hj
        by_cases e : j = i
        · subst e; exact h
        · exact HG.out j (by omega))
      clear hcell HC HG
      generalize l.getD i Pc.zero = x at *
      obtain ⟨x0, x1, x2, x3, x4⟩ := x
      simp only [Pc.cells, List.getD_cons_zero, List.getD_cons_succ, Nat.add_zero] at c0 c1 c2 c3
      go_wp2_with fail
      refine (rin_any x0 0 15 _).mono ?_
      rintro e w1 ⟨rfl, rfl⟩
      go_wp2_with fail
      refine (rin_any x1 0 4096 _).mono ?_
      rintro e w1 ⟨rfl, rfl⟩
      go_wp2_with fail
      refine (rin_any x2 0 4096 _).mono ?_
      rintro e w1 ⟨rfl, rfl⟩
      go_wp2_with fail
      refine (rin_any x3 0 63 _).mono ?_
      rintro e w1 ⟨rfl, rfl⟩
      have HP := hid (show procB ⟨x0, x1, x2, x3, x4⟩ = (inB 0 15 x0 && inB 0 4096 x1 && inB 0 4096 x2 && inB 0 63 x3) from rfl)
      rcases h0 : inB 0 15 x0
      · have HN := hid (HNo.out (by rw [HP.out, h0]; rfl))
        clear HNo HGo HP
        go_wp2
        go_ret
        exact ⟨by rw [HN.out, Bool.and_false]; rfl, rfl⟩
      rcases h1 : inB 0 4096 x1
      · have HN := hid (HNo.out (by rw [HP.out, h0, h1]; rfl))
        clear HNo HGo HP
        go_wp2
        go_ret
        exact ⟨by rw [HN.out, Bool.and_false]; rfl, rfl⟩
      rcases h2 : inB 0 4096 x2
      · have HN := hid (HNo.out (by rw [HP.out, h0, h1, h2]; rfl))
        clear HNo HGo HP
        go_wp2
        go_ret
        exact ⟨by rw [HN.out, Bool.and_false]; rfl, rfl⟩
      rcases h3 : inB 0 63 x3
      · have HN := hid (HNo.out (by rw [HP.out, h0, h1, h2, h3]; rfl))
        clear HNo HGo HP
        go_wp2
        go_ret
        exact ⟨by rw [HN.out, Bool.and_false]; rfl, rfl⟩
      have HN := hid (HGo.out (by rw [HP.out, h0, h1, h2, h3]; rfl))
      clear HNo HGo HP
      go_wp2
      go_roundw
      case rel => exact ⟨i + 1, by omega, by go_num, HN.out, by trivial⟩
      case measure => simp [intOf]; omega
    · have HE := hid (show allN (fun i => procB (l.getD i Pc.zero)) l.length = true from allN_yes _ _ (fun j hj => HG.out j (by omega)))
      go_wp2
      go_ret
      exact ⟨by rw [HI.out, HE.out]; rfl, rfl⟩


def objB (p : Pt) : Bool := (inB 0 4 p.bc.length && allN (fun i => bufB (p.bc.getD i Bc.zero)) p.bc.length) && (inB 0 4 p.sc.length && allN (fun i => semB (p.sc.getD i Sc.zero)) p.sc.length)

set_option maxRecDepth 100000 in
set_option maxHeartbeats 1600000 in
theorem robjects_any (q : Pv) (p : Pt) (w : World) (hS : PtAt w q p) :
    Calls Try.prog 73 #[q.val] w fun e w' => e = .returned (.bool (objB p)) ∧ Below w.heap.size w w' := by
  obtain ⟨wo, ⟨a1, n1, k1⟩, ⟨a2, n2, k2⟩, bo, ⟨a4, n4, k4⟩, ⟨a5, n5, k5⟩, ev, ⟨a7, n7, k7⟩, ⟨a8, n8, k8⟩, la, ⟨a10, n10, k10⟩⟩ := q
  obtain ⟨b1, d1, hb1, hb2, hb3, hbc⟩ := hS.bc.form
  obtain ⟨b2, d2, hs1, hs2, hs3, hsc⟩ := hS.sc.form
  simp only [Sl.val, Value.slice.injEq] at hb1 hs1
  obtain ⟨rfl, rfl, rfl⟩ := hb1
  obtain ⟨rfl, rfl, rfl⟩ := hs1
  have HBC := hid hbc
  have HSC := hid hsc
  have HO := hid (show objB p = ((inB 0 4 p.bc.length && allN (fun i => bufB (p.bc.getD i Bc.zero)) p.bc.length) && (inB 0 4 p.sc.length && allN (fun i => semB (p.sc.getD i Sc.zero)) p.sc.length)) from rfl)
  clear hbc hsc hS
  generalize objB p = ob at *
  obtain ⟨_, _, _, _, bc, sc, _, _, _, _, _⟩ := p
  simp only at HO HBC HSC hb2 hb3 hs2 hs3
  unfold maxLen at hb3 hs3
  unfold Pv.val
  simp only
  go_enter Try.func73, Try.ntmps73
  by_cases g1 : (4 : Int) < (bc.length : Int)
  · have HE := hid (show inB 0 4 (bc.length : Int) = false by simp [inB]; omega)
    go_wp2
    go_ret
    exact ⟨by rw [HO.out, HE.out]; rfl, (Below.refl _ _).alloc (Nat.le_refl _) _⟩
  by_cases g2 : (4 : Int) < (sc.length : Int)
  · have HE := hid (show inB 0 4 (sc.length : Int) = false by simp [inB]; omega)
    go_wp2
    go_ret
    exact ⟨by rw [HO.out, HE.out]; simp, (Below.refl _ _).alloc (Nat.le_refl _) _⟩
  have HI1 := hid (show inB 0 4 (bc.length : Int) = true by simp [inB]; omega)
  have HI2 := hid (show inB 0 4 (sc.length : Int) = true by simp [inB]; omega)
  have HB := hid (BoxAt.new w 49 #[.int .i64 wo, .slice a1 n1 k1, .slice a2 n2 k2, .int .i64 bo, .slice a4 bc.length k4, .slice a5 sc.length k5, .int .i64 ev, .slice a7 n7 k7, .slice a8 n8 k8, .int .i64 la, .slice a10 n10 k10])
  have HW := hid (show Below w.heap.size w (w.alloc (.cells #[.int .i64 wo, .slice a1 n1 k1, .slice a2 n2 k2, .int .i64 bo, .slice a4 bc.length k4, .slice a5 sc.length k5, .int .i64 ev, .slice a7 n7 k7, .slice a8 n8 k8, .int .i64 la, .slice a10 n10 k10] 49)) from (Below.refl _ _).alloc (Nat.le_refl _) _)
  go_wp2
  generalize w.alloc (.cells #[.int .i64 wo, .slice a1 n1 k1, .slice a2 n2 k2, .int .i64 bo, .slice a4 bc.length k4, .slice a5 sc.length k5, .int .i64 ev, .slice a7 n7 k7, .slice a8 n8 k8, .int .i64 la, .slice a10 n10 k10] 49) = w0 at *
  go_loopw [3] (fun t wc => ∃ i : Nat, i ≤ bc.length ∧ t = .int .i64 i ∧ (∀ j, j < i → bufB (bc.getD j Bc.zero) = true) ∧ wc = w0) (fun t _ => bc.length - (intOf t).toNat)
  case atStart => exact ⟨0, by omega, rfl, by intro j hj; omega, rfl⟩
  case round =>
    obtain ⟨i, hi, rfl, hgood, hwc⟩ := hrel
    subst hwc
    have HG := hid hgood
    clear hgood
    have e4 := (HB.out.cell 4).trans rfl
    have e5 := (HB.out.cell 5).trans rfl
    by_cases hlt : i < bc.length
    · obtain ⟨bb, off, rfl, hbw, hcell⟩ := HBC.out (by omega)
      have c0 := (HW.out.cell (by exact hbw)).trans (hcell i hlt 0 (by decide))
      have HNo := hid (show bufB (bc.getD i Bc.zero) = false → ob = false from fun h => by rw [HO.out, allN_no _ _ i hlt h]; simp)
      have HGo := hid (show bufB (bc.getD i Bc.zero) = true → ∀ j, j < i + 1 → bufB (bc.getD j Bc.zero) = true by
        intro h j hj
        by_cases e : j = i
        · subst e; exact h
        · exact HG.out j (by omega))
      clear hcell HBC HG HSC
      generalize bc.getD i Bc.zero = x at *
      obtain ⟨x0, x1⟩ := x
      simp only [Bc.cells, List.getD_cons_zero, Nat.add_zero] at c0
      go_wp2_with fail
      refine (rin_any x0 1 8 _).mono ?_
      rintro e w1 ⟨rfl, rfl⟩
      rcases h0 : inB 1 8 x0
      · have HN := hid (HNo.out h0)
        clear HNo HGo
        go_wp2
        go_ret
        exact ⟨by rw [HN.out]; rfl, HW.out⟩
      have HN := hid (HGo.out h0)
      clear HNo HGo
      go_wp2
      go_roundw
      case rel => exact ⟨i + 1, by omega, by go_num, HN.out, by trivial⟩
      case measure => simp [intOf]; omega
    · have HE := hid (show allN (fun i => bufB (bc.getD i Bc.zero)) bc.length = true from allN_yes _ _ (fun j hj => HG.out j (by omega)))
      clear HG HBC
      go_wp2
      go_loopw [5] (fun t wc => ∃ i : Nat, i ≤ sc.length ∧ t = .int .i64 i ∧ (∀ j, j < i → semB (sc.getD j Sc.zero) = true) ∧ Below wr.heap.size wr wc) (fun t _ => sc.length - (intOf t).toNat)
      case atStart => exact ⟨0, by omega, rfl, by intro j hj; omega, Below.refl _ _⟩
      case round =>
        obtain ⟨i, hi, rfl, hgood, hbel⟩ := hrel
        rename World => w2
        have HG := hid hgood
        clear hgood e4 e5
        have e5 := ((HB.out.belowAll hbel).cell 5).trans rfl
        by_cases hlt : i < sc.length
        · obtain ⟨bb, off, rfl, hbw, hcell⟩ := HSC.out (by omega)
          have HWr := hid (HW.out.trans (hbel.mono HW.out.size))
          have c0 := (HWr.out.cell (by exact hbw)).trans (hcell i hlt 0 (by decide))
          have c1 := (HWr.out.cell (by exact hbw)).trans (hcell i hlt 1 (by decide))
          have c2 := (HWr.out.cell (by exact hbw)).trans (hcell i hlt 2 (by decide))
          have HNo := hid (show semB (sc.getD i Sc.zero) = false → ob = false from fun h => by rw [HO.out, allN_no _ _ i hlt h]; simp)
          have HGo := hid (show semB (sc.getD i Sc.zero) = true → ∀ j, j < i + 1 → semB (sc.getD j Sc.zero) = true by
            intro h j hj
            by_cases e : j = i
            · subst e; exact h
            · exact HG.out j (by omega))
          clear hcell HG HSC
          generalize sc.getD i Sc.zero = x at *
          obtain ⟨x0, x1, x2⟩ := x
          simp only [Sc.cells, List.getD_cons_zero, List.getD_cons_succ, Nat.add_zero] at c0 c1 c2
          go_wp2_with fail
          refine (rin_any x1 1 8 _).mono ?_
          rintro e w1 ⟨rfl, rfl⟩
          go_wp2_with fail
          refine (rin_any x0 0 x1 _).mono ?_
          rintro e w1 ⟨rfl, rfl⟩
          have HP := hid (show semB ⟨x0, x1, x2⟩ = (inB 1 8 x1 && inB 0 x1 x0) from rfl)
          have HA := hid (hbel.alloc hbel.size (.cells #[.int .i64 x0, .int .i64 x1, .bool x2] 106))
          rcases h0 : inB 1 8 x1
          · have HN := hid (HNo.out (by rw [HP.out, h0]; rfl))
            clear HNo HGo HP
            go_wp2
            go_ret
            exact ⟨by rw [HN.out]; rfl, HW.out.trans (HA.out.mono HW.out.size)⟩
          rcases h1 : inB 0 x1 x0
          · have HN := hid (HNo.out (by rw [HP.out, h0, h1]; rfl))
            clear HNo HGo HP
            go_wp2
            go_ret
            exact ⟨by rw [HN.out]; rfl, HW.out.trans (HA.out.mono HW.out.size)⟩
          have HN := hid (HGo.out (by rw [HP.out, h0, h1]; rfl))
          clear HNo HGo HP
          go_wp2
          go_roundw
          case rel => exact ⟨i + 1, by omega, by go_num, HN.out, HA.out⟩
          case measure => simp [intOf]; omega
        · have HE2 := hid (show allN (fun i => semB (sc.getD i Sc.zero)) sc.length = true from allN_yes _ _ (fun j hj => HG.out j (by omega)))
          clear HG HSC
          go_wp2
          go_ret
          exact ⟨by rw [HO.out, HI1.out, HI2.out, HE.out, HE2.out]; rfl, HW.out.trans (hbel.mono HW.out.size)⟩

theorem part_form (p : Pt) : partB p = (mayB p.rg p.wo && (inB 1 6 p.pc.length && allN (fun i => procB (p.pc.getD i Pc.zero)) p.pc.length) && inB 0 4 p.bo && inB 0 4 p.ev && objB p && (decide ((p.sa.length : Int) ≤ 4) && allN (fun i => inB 0 4096 (p.sa.getD i 0)) p.sa.length) && (decide ((p.qu.length : Int) ≤ 4) && allN (fun i => inB 1 8 (p.qu.getD i 0)) p.qu.length) && inB 0 8 p.la && (decide ((p.tb.length : Int) ≤ 7) && allN (fun i => inB 0 4 (p.tb.getD i 0)) p.tb.length) && decide (p.tb.length = 7) && decide (p.tb.getD 0 0 = 0)) := by
  have h1 : decide ((p.sa.length : Int) ≤ 4) = inB 0 4 p.sa.length := by simp [inB]
  have h2 : decide ((p.qu.length : Int) ≤ 4) = inB 0 4 p.qu.length := by simp [inB]
  have h3 : inB 7 7 (p.tb.length : Int) = (decide ((p.tb.length : Int) ≤ 7) && decide (p.tb.length = 7)) := by rw [Bool.eq_iff_iff]; simp [inB]; omega
  unfold partB objB
  rw [h3, h1, h2]
  ac_rfl

set_option maxRecDepth 100000 in
set_option maxHeartbeats 4000000 in
theorem rpart_any (q : Pv) (p : Pt) (w : World) (hS : PtAt w q p) (hf : ∀ r ∈ p.rg, r.fit) :
    Calls Try.prog 39 #[q.val] w fun e w' => e = .returned (.bool (partB p)) ∧ Below w.heap.size w w' := by
  obtain ⟨wo, ⟨a1, n1, k1⟩, ⟨a2, n2, k2⟩, bo, ⟨a4, n4, k4⟩, ⟨a5, n5, k5⟩, ev, ⟨a7, n7, k7⟩, ⟨a8, n8, k8⟩, la, ⟨a10, n10, k10⟩⟩ := q
  obtain rfl : wo = p.wo := hS.wo
  obtain rfl : bo = p.bo := hS.bo
  obtain rfl : ev = p.ev := hS.ev
  obtain rfl : la = p.la := hS.la
  have HT := hid hS.tb.form
  have hn10 : n10 = p.tb.length := by
    obtain ⟨_, _, h, _⟩ := HT.out
    simp only [Sl.val, Value.slice.injEq] at h
    exact h.2.1
  have HN10 := hid hn10
  have HS := hid hS
  have HF := hid hf
  have hp := part_form p
  obtain ⟨r0, hr0⟩ : ∃ r, mayB p.rg p.wo = r := ⟨_, rfl⟩
  rw [hr0] at hp
  have R0 := hid hr0
  clear hr0
  obtain ⟨r1, hr1⟩ : ∃ r, (inB 1 6 p.pc.length && allN (fun i => procB (p.pc.getD i Pc.zero)) p.pc.length) = r := ⟨_, rfl⟩
  rw [hr1] at hp
  have R1 := hid hr1
  clear hr1
  obtain ⟨r2, hr2⟩ : ∃ r, inB 0 4 p.bo = r := ⟨_, rfl⟩
  rw [hr2] at hp
  have R2 := hid hr2
  clear hr2
  obtain ⟨r3, hr3⟩ : ∃ r, inB 0 4 p.ev = r := ⟨_, rfl⟩
  rw [hr3] at hp
  have R3 := hid hr3
  clear hr3
  obtain ⟨r4, hr4⟩ : ∃ r, objB p = r := ⟨_, rfl⟩
  rw [hr4] at hp
  have R4 := hid hr4
  clear hr4
  obtain ⟨r5, hr5⟩ : ∃ r, (decide ((p.sa.length : Int) ≤ 4) && allN (fun i => inB 0 4096 (p.sa.getD i 0)) p.sa.length) = r := ⟨_, rfl⟩
  rw [hr5] at hp
  have R5 := hid hr5
  clear hr5
  obtain ⟨r6, hr6⟩ : ∃ r, (decide ((p.qu.length : Int) ≤ 4) && allN (fun i => inB 1 8 (p.qu.getD i 0)) p.qu.length) = r := ⟨_, rfl⟩
  rw [hr6] at hp
  have R6 := hid hr6
  clear hr6
  obtain ⟨r7, hr7⟩ : ∃ r, inB 0 8 p.la = r := ⟨_, rfl⟩
  rw [hr7] at hp
  have R7 := hid hr7
  clear hr7
  obtain ⟨r8, hr8⟩ : ∃ r, (decide ((p.tb.length : Int) ≤ 7) && allN (fun i => inB 0 4 (p.tb.getD i 0)) p.tb.length) = r := ⟨_, rfl⟩
  rw [hr8] at hp
  have R8 := hid hr8
  clear hr8
  have HP := hid hp
  clear hp
  clear hS hf hn10
  unfold Pv.val
  have hB : Below w.heap.size w (w.alloc (.cells #[.int .i64 p.wo, .slice a1 n1 k1, .slice a2 n2 k2, .int .i64 p.bo, .slice a4 n4 k4, .slice a5 n5 k5, .int .i64 p.ev, .slice a7 n7 k7, .slice a8 n8 k8, .int .i64 p.la, .slice a10 n10 k10] 49)) := (Below.refl _ _).alloc (Nat.le_refl _) _
  have HB := hid hB
  replace HS := hid (HS.out.below hB)
  have B0 := hid (BoxAt.new w 49 #[.int .i64 p.wo, .slice a1 n1 k1, .slice a2 n2 k2, .int .i64 p.bo, .slice a4 n4 k4, .slice a5 n5 k5, .int .i64 p.ev, .slice a7 n7 k7, .slice a8 n8 k8, .int .i64 p.la, .slice a10 n10 k10])
  clear hB
  go_enter Try.func39, Try.ntmps39
  go_wp2_with fail
  refine (rmay_any _ p.rg p.wo _ HS.out.rg HF.out).mono ?_
  rintro e w0 ⟨rfl, hb⟩
  rw [may_same, R0.out]
  replace HS := hid (HS.out.below hb)
  replace B0 := hid (B0.out.belowAll hb)
  replace HB := hid (HB.out.trans (hb.mono HB.out.size))
  clear hb
  have c2 := (B0.out.cell 2).trans rfl
  go_wp2_with fail
  refine (rprocs_any _ p.pc _ HS.out.pc).mono ?_
  rintro e w1 ⟨rfl, rfl⟩
  rw [R1.out]
  clear c2
  have c3 := (B0.out.cell 3).trans rfl
  go_wp2_with fail
  refine (rin_any p.bo 0 4 _).mono ?_
  rintro e w2 ⟨rfl, rfl⟩
  rw [R2.out]
  clear c3
  have c6 := (B0.out.cell 6).trans rfl
  go_wp2_with fail
  refine (rin_any p.ev 0 4 _).mono ?_
  rintro e w3 ⟨rfl, rfl⟩
  rw [R3.out]
  clear c6
  have c0 := (B0.out.cell 0).trans rfl
  have c1 := (B0.out.cell 1).trans rfl
  have c2 := (B0.out.cell 2).trans rfl
  have c3 := (B0.out.cell 3).trans rfl
  have c4 := (B0.out.cell 4).trans rfl
  have c5 := (B0.out.cell 5).trans rfl
  have c6 := (B0.out.cell 6).trans rfl
  have c7 := (B0.out.cell 7).trans rfl
  have c8 := (B0.out.cell 8).trans rfl
  have c9 := (B0.out.cell 9).trans rfl
  have c10 := (B0.out.cell 10).trans rfl
  go_wp2_with fail
  refine (robjects_any ⟨p.wo, ⟨a1, n1, k1⟩, ⟨a2, n2, k2⟩, p.bo, ⟨a4, n4, k4⟩, ⟨a5, n5, k5⟩, p.ev, ⟨a7, n7, k7⟩, ⟨a8, n8, k8⟩, p.la, ⟨a10, n10, k10⟩⟩ p _ HS.out).mono ?_
  rintro e w4 ⟨rfl, hb⟩
  rw [R4.out]
  replace HS := hid (HS.out.below hb)
  replace B0 := hid (B0.out.belowAll hb)
  replace HB := hid (HB.out.trans (hb.mono HB.out.size))
  clear hb
  clear c0 c1 c2 c3 c4 c5 c6 c7 c8 c9 c10
  have c7 := (B0.out.cell 7).trans rfl
  go_wp2_with fail
  refine (rnumbers_any _ p.sa 4 0 4096 _ HS.out.sa).mono ?_
  rintro e w5 ⟨rfl, rfl⟩
  rw [R5.out]
  clear c7
  have c8 := (B0.out.cell 8).trans rfl
  go_wp2_with fail
  refine (rnumbers_any _ p.qu 4 1 8 _ HS.out.qu).mono ?_
  rintro e w6 ⟨rfl, rfl⟩
  rw [R6.out]
  clear c8
  have c9 := (B0.out.cell 9).trans rfl
  go_wp2_with fail
  refine (rin_any p.la 0 8 _).mono ?_
  rintro e w7 ⟨rfl, rfl⟩
  rw [R7.out]
  clear c9
  have c10 := (B0.out.cell 10).trans rfl
  go_wp2_with fail
  refine (rnumbers_any _ p.tb 7 0 4 _ HS.out.tb).mono ?_
  rintro e w8 ⟨rfl, rfl⟩
  rw [R8.out]
  clear c10
  have c10 := (B0.out.cell 10).trans rfl
  clear HS B0 HF
  cases r0
  · clear HT
    go_wp2
    go_ret
    exact ⟨by rw [HP.out]; simp, HB.out⟩
  cases r1
  · clear HT
    go_wp2
    go_ret
    exact ⟨by rw [HP.out]; simp, HB.out⟩
  cases r2
  · clear HT
    go_wp2
    go_ret
    exact ⟨by rw [HP.out]; simp, HB.out⟩
  cases r3
  · clear HT
    go_wp2
    go_ret
    exact ⟨by rw [HP.out]; simp, HB.out⟩
  cases r4
  · clear HT
    go_wp2
    go_ret
    exact ⟨by rw [HP.out]; simp, HB.out⟩
  cases r5
  · clear HT
    go_wp2
    go_ret
    exact ⟨by rw [HP.out]; simp, HB.out⟩
  cases r6
  · clear HT
    go_wp2
    go_ret
    exact ⟨by rw [HP.out]; simp, HB.out⟩
  cases r7
  · clear HT
    go_wp2
    go_ret
    exact ⟨by rw [HP.out]; simp, HB.out⟩
  cases r8
  · clear HT
    go_wp2
    go_ret
    exact ⟨by rw [HP.out]; simp, HB.out⟩
  by_cases h7 : p.tb.length = 7
  · obtain ⟨al, cl, hv, hl1, hl2, hlc⟩ := HT.out
    simp only [Sl.val, Value.slice.injEq] at hv
    obtain ⟨rfl, hnn, rfl⟩ := hv
    obtain ⟨b, off, rfl, hbw, hcell⟩ := hlc (by omega)
    have d0 := (HB.out.cell (by exact hbw)).trans (hcell 0 (by omega))
    have H7 := hid h7
    rw [h7] at hnn
    subst hnn
    clear hcell hlc HT h7 HN10
    simp only [Nat.add_zero] at d0
    generalize p.tb.getD 0 0 = x at *
    by_cases hx : x = 0
    · subst hx
      go_wp2
      go_ret
      exact ⟨by rw [HP.out, H7.out]; rfl, HB.out⟩
    · have hx' : (x == 0) = false := by simpa using hx
      have HX := hid (show decide (x = 0) = false by simpa using hx)
      clear hx
      go_wp2
      go_ret
      exact ⟨by rw [HP.out, HX.out]; simp, HB.out⟩
  · have h7' : ((n10 : Int) == 7) = false := by rw [HN10.out]; simp; omega
    have H7 := hid (show decide (p.tb.length = 7) = false by simpa using h7)
    clear h7 HT HN10
    go_wp2
    go_ret
    exact ⟨by rw [HP.out, H7.out]; simp, HB.out⟩

end Go.Proofs.Ytfdoejdnhogepaa
