/-
  What the document's own numbers of a flag, of a list and of a partition are, and that nothing that was there is written.
-/
import Derived.Test.YtfdoejdnhogepaaTOwnI
import Derived.Test.YtfdoejdnhogepaaTFlat
import Derived.Deep.RegionHeld3
namespace Go.Proofs.Ytfdoejdnhogepaa
open Go.RowKit
set_option linter.unusedVariables false


set_option maxRecDepth 100000 in
set_option maxHeartbeats 400000 in
theorem rbit_any (b : Bool) (w : World) :
    Calls Try.prog 35 #[.bool b] w fun e w' => e = .returned (.int .i64 (bitI b)) ∧ w' = w := by
  cases b
  all_goals
    go_enter Try.func35, Try.ntmps35
    go_wp2
    go_ret
    exact ⟨rfl, rfl⟩

theorem one1_flat (l : List Int) : l.flatMap one1 = l := by
  induction l with
  | nil => rfl
  | cons x l ih => rw [List.flatMap_cons, ih]; rfl

set_option maxRecDepth 100000 in
set_option maxHeartbeats 400000 in
theorem rcounted_any (v : Value) (l : List Int) (w : World) (hv : Sees w .i64 v l) (hl : l.length ≤ 10000) :
    Calls Try.prog 33 #[v] w fun e w' => ∃ u, e = .returned u ∧ OI w' w.heap.size u (cntF one1 l) ∧ Below w.heap.size w w' := by
  have HSe := hid (show Sees (w.alloc (.cells #[.int .i64 (l.length : Int)] 3)) .i64 v l from hv.below ((Below.refl _ _).alloc (Nat.le_refl _) _))
  obtain ⟨al, cl, rfl, hl1, hl2, _⟩ := hv.form
  have HO := hid (show OI (w.alloc (.cells #[.int .i64 (l.length : Int)] 3)) w.heap.size (.slice (some ⟨w.heap.size, 0, none⟩) 1 1) [(l.length : Int)] from OI.made (t := 3) (ys := [(l.length : Int)]) (BoxAt.new w _ _) (Nat.le_refl _) (by simp))
  have HL := hid (show [(l.length : Int)].length + l.length ≤ 1000000 by simp; omega)
  clear hv
  go_enter Try.func33, Try.ntmps33
  go_wp2_with (at_builtin; refine app_ints rfl _ _ rfl w.heap.size _ [(l.length : Int)] rfl HO.out _ l rfl HSe.out HL.out (by simp) ?_)
  intro v1 w1 ho hg hb
  have HR := hid (show OI w1 w.heap.size v1 (cntF one1 l) by unfold cntF; rw [one1_flat]; exact ho)
  have HB := hid (show Below w.heap.size w w1 from ((Below.refl _ _).alloc (Nat.le_refl _) _).trans hb)
  clear ho hg hb HO HSe HL
  go_wp2
  go_ret
  exact ⟨_, rfl, HR.out, HB.out⟩


theorem cnt1_len (l : List Int) : (cntF one1 l).length = l.length + 1 := by unfold cntF; rw [one1_flat]; rfl

set_option maxRecDepth 100000 in
set_option maxHeartbeats 8000000 in
theorem rlay_any (q : Pv) (p : Pt) (w : World) (hS : PtAt w q p) (hfew : p.few) :
    Calls Try.prog 34 #[q.val] w fun e w' => ∃ u, e = .returned u ∧ OI w' w.heap.size u (flPt p) ∧ Below w.heap.size w w' := by
  obtain ⟨wo, ⟨a1, n1, k1⟩, ⟨a2, n2, k2⟩, bo, ⟨a4, n4, k4⟩, ⟨a5, n5, k5⟩, ev, ⟨a7, n7, k7⟩, ⟨a8, n8, k8⟩, la, ⟨a10, n10, k10⟩⟩ := q
  obtain rfl : wo = p.wo := hS.wo
  obtain rfl : bo = p.bo := hS.bo
  obtain rfl : ev = p.ev := hS.ev
  obtain rfl : la = p.la := hS.la
  obtain ⟨q1, q2, q3, q4, q5, q6, q7⟩ := hfew
  have HQ := hid (And.intro q5 (And.intro q6 q7))
  obtain ⟨al1, cl1, hv1, hl1, hm1, hlc1⟩ := hS.rg.form
  simp only [Sl.val, Value.slice.injEq] at hv1
  obtain ⟨rfl, hn1, rfl⟩ := hv1
  have HN1 := hid hn1
  unfold maxLen at hm1
  rw [← hn1] at hl1 q1
  have HC1 := hid (show 0 < p.rg.length → ∃ b off, a1 = some ⟨b, off, none⟩ ∧ b < w.heap.size ∧ ∀ i, i < p.rg.length → ∀ j, j < 3 → w.cell? ⟨b, off + i * 3 + j, none⟩ = some ((p.rg.getD i Rg.zero).cells.getD j .nilIface) from fun h => by
    obtain ⟨b, off, h1, h2, h3⟩ := hlc1 h
    refine ⟨b, off, h1, h2, fun i hi j hj => ?_⟩
    obtain ⟨k0, k1, k2⟩ := h3 i hi
    rcases j with _ | _ | _ | j
    · exact k0
    · exact k1
    · exact k2
    · omega)
  clear hlc1 hn1
  obtain ⟨al2, cl2, hv2, hl2, hm2, hlc2⟩ := hS.pc.form
  simp only [Sl.val, Value.slice.injEq] at hv2
  obtain ⟨rfl, hn2, rfl⟩ := hv2
  have HN2 := hid hn2
  unfold maxLen at hm2
  rw [← hn2] at hl2 q2
  have HC2 := hid hlc2
  clear hlc2 hn2
  obtain ⟨al4, cl4, hv4, hl4, hm4, hlc4⟩ := hS.bc.form
  simp only [Sl.val, Value.slice.injEq] at hv4
  obtain ⟨rfl, hn4, rfl⟩ := hv4
  have HN4 := hid hn4
  unfold maxLen at hm4
  rw [← hn4] at hl4 q3
  have HC4 := hid hlc4
  clear hlc4 hn4
  obtain ⟨al5, cl5, hv5, hl5, hm5, hlc5⟩ := hS.sc.form
  simp only [Sl.val, Value.slice.injEq] at hv5
  obtain ⟨rfl, hn5, rfl⟩ := hv5
  have HN5 := hid hn5
  unfold maxLen at hm5
  rw [← hn5] at hl5 q4
  have HC5 := hid hlc5
  clear hlc5 hn5
  have HSS := hid hS
  have hB : Below w.heap.size w (w.alloc (.cells #[.int .i64 p.wo, .slice a1 n1 k1, .slice a2 n2 k2, .int .i64 p.bo, .slice a4 n4 k4, .slice a5 n5 k5, .int .i64 p.ev, .slice a7 n7 k7, .slice a8 n8 k8, .int .i64 p.la, .slice a10 n10 k10] 49)) := (Below.refl _ _).alloc (Nat.le_refl _) _
  have HB := hid hB
  have HX := hid (BoxAt.new w 49 #[.int .i64 p.wo, .slice a1 n1 k1, .slice a2 n2 k2, .int .i64 p.bo, .slice a4 n4 k4, .slice a5 n5 k5, .int .i64 p.ev, .slice a7 n7 k7, .slice a8 n8 k8, .int .i64 p.la, .slice a10 n10 k10])
  clear hS hB
  unfold Pv.val
  simp only
  have HO := hid (show OI ((w.alloc (.cells #[.int .i64 p.wo, .slice a1 n1 k1, .slice a2 n2 k2, .int .i64 p.bo, .slice a4 n4 k4, .slice a5 n5 k5, .int .i64 p.ev, .slice a7 n7 k7, .slice a8 n8 k8, .int .i64 p.la, .slice a10 n10 k10] 49)).alloc (.cells #[.int .i64 p.wo, .int .i64 (n1 : Int)] 3)) (w.alloc (.cells #[.int .i64 p.wo, .slice a1 n1 k1, .slice a2 n2 k2, .int .i64 p.bo, .slice a4 n4 k4, .slice a5 n5 k5, .int .i64 p.ev, .slice a7 n7 k7, .slice a8 n8 k8, .int .i64 p.la, .slice a10 n10 k10] 49)).heap.size (.slice (some ⟨w.heap.size + 1, 0, none⟩) 2 2) [p.wo, (n1 : Int)] from OI.made (t := 3) (ys := [p.wo, (n1 : Int)]) (by have := BoxAt.new (w.alloc (.cells #[.int .i64 p.wo, .slice a1 n1 k1, .slice a2 n2 k2, .int .i64 p.bo, .slice a4 n4 k4, .slice a5 n5 k5, .int .i64 p.ev, .slice a7 n7 k7, .slice a8 n8 k8, .int .i64 p.la, .slice a10 n10 k10] 49)) 3 #[.int .i64 p.wo, .int .i64 (n1 : Int)]; simpa using this) (by simp) (by simp))
  go_enter Try.func34, Try.ntmps34
  go_wp2
  generalize hw0 : w.alloc (.cells #[.int .i64 p.wo, .slice a1 n1 k1, .slice a2 n2 k2, .int .i64 p.bo, .slice a4 n4 k4, .slice a5 n5 k5, .int .i64 p.ev, .slice a7 n7 k7, .slice a8 n8 k8, .int .i64 p.la, .slice a10 n10 k10] 49) = w0 at *
  have hz0 : w.heap.size < w0.heap.size := by rw [← hw0]; simp
  clear hw0
  obtain ⟨L1, hL1⟩ : ∃ N, N = [p.wo, (n1 : Int)] := ⟨_, rfl⟩
  rw [← hL1] at HO
  have HEL1 := hid hL1
  have hLbL1 : L1.length ≤ 2 := by rw [hL1]; simp
  have HOL1 := HO
  have HBL1 := hid (show Below w0.heap.size w0 (w0.alloc (.cells #[.int .i64 p.wo, .int .i64 (n1 : Int)] 3)) from (Below.refl _ _).alloc (Nat.le_refl _) _)
  clear hL1 HO
  go_loopw [3, 4] (fun s t wc => ∃ (i : Nat) (M : List Int), i ≤ n1 ∧ t = .int .i64 i ∧ OI wc w0.heap.size s M ∧ M = L1 ++ (p.rg.take i).flatMap flRg ∧ M.length = L1.length + 3 * i ∧ Below w0.heap.size w0 wc) (fun _ t _ => n1 - (intOf t).toNat)
  case atStart => exact ⟨0, L1, by omega, rfl, HOL1.out, by simp, by simp, HBL1.out⟩
  case round =>
    obtain ⟨i, M, hi, rfl, hO, hM, hMl, hbel⟩ := hrel
    rename World => wrL1
    have HO := hid hO
    have HM := hid hM
    clear hO hM HOL1 HBL1
    have e1 := ((HX.out.belowAll hbel).cell 1).trans rfl
    by_cases hlt : i < n1
    · have hlt' : i < p.rg.length := by rw [← HN1.out]; exact hlt
      obtain ⟨bb, off, rfl, hbw, hcell⟩ := HC1.out (by omega)
      have hc0 := hcell i hlt' 0 (by decide)
      have hc1 := hcell i hlt' 1 (by decide)
      have hc2 := hcell i hlt' 2 (by decide)
      have HS := hid (flat_snoc flRg Rg.zero p.rg i hlt')
      clear hcell hlt'
      generalize p.rg.getD i Rg.zero = x at *
      obtain ⟨x0, x1, x2⟩ := x
      simp only [Rg.cells, List.getD_cons_zero, List.getD_cons_succ, Nat.add_zero] at hc0 hc1 hc2
      have hblt : bb < w0.heap.size := by have := HB.out.size; omega
      have MK := hid (show ∀ w', Below w0.heap.size w0 w' → w'.cell? ⟨w.heap.size, 1, none⟩ = some (.slice (some ⟨bb, off, none⟩) n1 k1) ∧ w'.cell? ⟨bb, off + i * 3, none⟩ = some (.int .i64 x0) ∧ w'.cell? ⟨bb, off + i * 3 + 1, none⟩ = some (.int .i64 x1) ∧ w'.cell? ⟨bb, off + i * 3 + 2, none⟩ = some (.bool x2) from
        fun w' h => ⟨((HX.out.belowAll h).cell 1).trans rfl, ((HB.out.trans (h.mono HB.out.size)).cell (by exact hbw)).trans hc0, ((HB.out.trans (h.mono HB.out.size)).cell (by exact hbw)).trans hc1, ((HB.out.trans (h.mono HB.out.size)).cell (by exact hbw)).trans hc2⟩)
      have hMb : M.length + [x0, x1, bitI x2].length ≤ 1000000 := by simp only [List.length_cons, List.length_nil]; omega
      have HMB := hid hMb
      clear hMb hc0 hc1 hc2
      go_wp2_with fail
      refine wp_region_held_drew (S := (fun w' => w'.cell? ⟨w.heap.size, 1, none⟩ = some (.slice (some ⟨bb, off, none⟩) n1 k1) ∧ w'.cell? ⟨bb, off + i * 3, none⟩ = some (.int .i64 x0) ∧ w'.cell? ⟨bb, off + i * 3 + 1, none⟩ = some (.int .i64 x1) ∧ w'.cell? ⟨bb, off + i * 3 + 2, none⟩ = some (.bool x2))) (by kernel_rfl) (MK.out _ hbel.drew) (fun hHeld => ?_)
      refine wpAnyH_take (i := 0) (oi := { dst := some 22, op := Op.move (Operand.tmp 3), type := 22, pos := "ref.go:175", after := #[], guard := none }) (v := ?_) rfl (by kernel_rfl) (by kernel_rfl) (by kernel_rfl) (fun _ _ _ h => h) (Or.inl ⟨by rfl, ?_⟩) (by assumption) ?_
      rotate_left
      · (intro w hSw; (try dsimp only at hSw); go_simp; try with_reducible rfl)
      simp only [Act.put, List.setIfInBounds_toArray, List.set_cons_zero, List.set_cons_succ]
      refine wpAnyH_take (i := 1) (oi := { dst := some 23, op := Op.fieldAddr 49 (Operand.tmp 1) 1, type := 0, pos := "ref.go:175", after := #[], guard := none }) (v := ?_) rfl (by kernel_rfl) (by kernel_rfl) (by kernel_rfl) (fun _ _ _ h => h) (Or.inl ⟨by rfl, ?_⟩) (by assumption) ?_
      rotate_left
      · (intro w hSw; (try dsimp only at hSw); go_simp; try with_reducible rfl)
      simp only [Act.put, List.setIfInBounds_toArray, List.set_cons_zero, List.set_cons_succ]
      refine wpAnyH_take (i := 2) (oi := { dst := some 24, op := Op.load 44 (Operand.tmp 23), type := 44, pos := "ref.go:175", after := #[{ on := 1, ground := Ground.data }], guard := none }) (v := ?_) rfl (by kernel_rfl) (by kernel_rfl) (by kernel_rfl) (fun _ _ _ h => h) (Or.inl ⟨by rfl, ?_⟩) (by assumption) ?_
      rotate_left
      · (intro w hSw; (try dsimp only at hSw); go_simp; try with_reducible rfl)
      simp only [Act.put, List.setIfInBounds_toArray, List.set_cons_zero, List.set_cons_succ]
      refine wpAnyH_take (i := 3) (oi := { dst := some 25, op := Op.move (Operand.tmp 4), type := 3, pos := "ref.go:175", after := #[], guard := none }) (v := ?_) rfl (by kernel_rfl) (by kernel_rfl) (by kernel_rfl) (fun _ _ _ h => h) (Or.inl ⟨by rfl, ?_⟩) (by assumption) ?_
      rotate_left
      · (intro w hSw; (try dsimp only at hSw); go_simp; try with_reducible rfl)
      simp only [Act.put, List.setIfInBounds_toArray, List.set_cons_zero, List.set_cons_succ]
      refine wpAnyH_take (i := 4) (oi := { dst := some 26, op := Op.indexAddr 44 (Operand.tmp 24) (Operand.tmp 25), type := 0, pos := "ref.go:175", after := #[{ on := 2, ground := Ground.data }, { on := 3, ground := Ground.data }], guard := none }) (v := ?_) rfl (by kernel_rfl) (by kernel_rfl) (by kernel_rfl) (fun _ _ _ h => h) (Or.inl ⟨by rfl, ?_⟩) (by assumption) ?_
      rotate_left
      · (intro w hSw; (try dsimp only at hSw); go_simp; try with_reducible rfl)
      simp only [Act.put, List.setIfInBounds_toArray, List.set_cons_zero, List.set_cons_succ]
      refine wpAnyH_take (i := 5) (oi := { dst := some 27, op := Op.fieldAddr 102 (Operand.tmp 26) 0, type := 0, pos := "ref.go:175", after := #[{ on := 4, ground := Ground.data }], guard := none }) (v := ?_) rfl (by kernel_rfl) (by kernel_rfl) (by kernel_rfl) (fun _ _ _ h => h) (Or.inl ⟨by rfl, ?_⟩) (by assumption) ?_
      rotate_left
      · (intro w hSw; (try dsimp only at hSw); go_simp; try with_reducible rfl)
      simp only [Act.put, List.setIfInBounds_toArray, List.set_cons_zero, List.set_cons_succ]
      refine wpAnyH_take (i := 6) (oi := { dst := some 28, op := Op.load 3 (Operand.tmp 27), type := 3, pos := "ref.go:175", after := #[{ on := 5, ground := Ground.data }], guard := none }) (v := ?_) rfl (by kernel_rfl) (by kernel_rfl) (by kernel_rfl) (fun _ _ _ h => h) (Or.inl ⟨by rfl, ?_⟩) (by assumption) ?_
      rotate_left
      · (intro w hSw; (try dsimp only at hSw); go_simp; try with_reducible rfl)
      simp only [Act.put, List.setIfInBounds_toArray, List.set_cons_zero, List.set_cons_succ]
      refine wpAnyH_take (i := 7) (oi := { dst := some 29, op := Op.fieldAddr 49 (Operand.tmp 1) 1, type := 0, pos := "ref.go:175", after := #[], guard := none }) (v := ?_) rfl (by kernel_rfl) (by kernel_rfl) (by kernel_rfl) (fun _ _ _ h => h) (Or.inl ⟨by rfl, ?_⟩) (by assumption) ?_
      rotate_left
      · (intro w hSw; (try dsimp only at hSw); go_simp; try with_reducible rfl)
      simp only [Act.put, List.setIfInBounds_toArray, List.set_cons_zero, List.set_cons_succ]
      refine wpAnyH_take (i := 8) (oi := { dst := some 30, op := Op.load 44 (Operand.tmp 29), type := 44, pos := "ref.go:175", after := #[{ on := 7, ground := Ground.data }], guard := none }) (v := ?_) rfl (by kernel_rfl) (by kernel_rfl) (by kernel_rfl) (fun _ _ _ h => h) (Or.inl ⟨by rfl, ?_⟩) (by assumption) ?_
      rotate_left
      · (intro w hSw; (try dsimp only at hSw); go_simp; try with_reducible rfl)
      simp only [Act.put, List.setIfInBounds_toArray, List.set_cons_zero, List.set_cons_succ]
      refine wpAnyH_take (i := 9) (oi := { dst := some 31, op := Op.move (Operand.tmp 4), type := 3, pos := "ref.go:175", after := #[], guard := none }) (v := ?_) rfl (by kernel_rfl) (by kernel_rfl) (by kernel_rfl) (fun _ _ _ h => h) (Or.inl ⟨by rfl, ?_⟩) (by assumption) ?_
      rotate_left
      · (intro w hSw; (try dsimp only at hSw); go_simp; try with_reducible rfl)
      simp only [Act.put, List.setIfInBounds_toArray, List.set_cons_zero, List.set_cons_succ]
      refine wpAnyH_take (i := 10) (oi := { dst := some 32, op := Op.indexAddr 44 (Operand.tmp 30) (Operand.tmp 31), type := 0, pos := "ref.go:175", after := #[{ on := 8, ground := Ground.data }, { on := 9, ground := Ground.data }], guard := none }) (v := ?_) rfl (by kernel_rfl) (by kernel_rfl) (by kernel_rfl) (fun _ _ _ h => h) (Or.inl ⟨by rfl, ?_⟩) (by assumption) ?_
      rotate_left
      · (intro w hSw; (try dsimp only at hSw); go_simp; try with_reducible rfl)
      simp only [Act.put, List.setIfInBounds_toArray, List.set_cons_zero, List.set_cons_succ]
      refine wpAnyH_take (i := 11) (oi := { dst := some 33, op := Op.fieldAddr 102 (Operand.tmp 32) 1, type := 0, pos := "ref.go:175", after := #[{ on := 10, ground := Ground.data }], guard := none }) (v := ?_) rfl (by kernel_rfl) (by kernel_rfl) (by kernel_rfl) (fun _ _ _ h => h) (Or.inl ⟨by rfl, ?_⟩) (by assumption) ?_
      rotate_left
      · (intro w hSw; (try dsimp only at hSw); go_simp; try with_reducible rfl)
      simp only [Act.put, List.setIfInBounds_toArray, List.set_cons_zero, List.set_cons_succ]
      refine wpAnyH_take (i := 12) (oi := { dst := some 34, op := Op.load 3 (Operand.tmp 33), type := 3, pos := "ref.go:175", after := #[{ on := 11, ground := Ground.data }], guard := none }) (v := ?_) rfl (by kernel_rfl) (by kernel_rfl) (by kernel_rfl) (fun _ _ _ h => h) (Or.inl ⟨by rfl, ?_⟩) (by assumption) ?_
      rotate_left
      · (intro w hSw; (try dsimp only at hSw); go_simp; try with_reducible rfl)
      simp only [Act.put, List.setIfInBounds_toArray, List.set_cons_zero, List.set_cons_succ]
      refine wpAnyH_take (i := 13) (oi := { dst := some 35, op := Op.fieldAddr 49 (Operand.tmp 1) 1, type := 0, pos := "ref.go:175", after := #[], guard := none }) (v := ?_) rfl (by kernel_rfl) (by kernel_rfl) (by kernel_rfl) (fun _ _ _ h => h) (Or.inl ⟨by rfl, ?_⟩) (by assumption) ?_
      rotate_left
      · (intro w hSw; (try dsimp only at hSw); go_simp; try with_reducible rfl)
      simp only [Act.put, List.setIfInBounds_toArray, List.set_cons_zero, List.set_cons_succ]
      refine wpAnyH_take (i := 14) (oi := { dst := some 36, op := Op.load 44 (Operand.tmp 35), type := 44, pos := "ref.go:175", after := #[{ on := 13, ground := Ground.data }], guard := none }) (v := ?_) rfl (by kernel_rfl) (by kernel_rfl) (by kernel_rfl) (fun _ _ _ h => h) (Or.inl ⟨by rfl, ?_⟩) (by assumption) ?_
      rotate_left
      · (intro w hSw; (try dsimp only at hSw); go_simp; try with_reducible rfl)
      simp only [Act.put, List.setIfInBounds_toArray, List.set_cons_zero, List.set_cons_succ]
      refine wpAnyH_take (i := 15) (oi := { dst := some 37, op := Op.move (Operand.tmp 4), type := 3, pos := "ref.go:175", after := #[], guard := none }) (v := ?_) rfl (by kernel_rfl) (by kernel_rfl) (by kernel_rfl) (fun _ _ _ h => h) (Or.inl ⟨by rfl, ?_⟩) (by assumption) ?_
      rotate_left
      · (intro w hSw; (try dsimp only at hSw); go_simp; try with_reducible rfl)
      simp only [Act.put, List.setIfInBounds_toArray, List.set_cons_zero, List.set_cons_succ]
      refine wpAnyH_take (i := 16) (oi := { dst := some 38, op := Op.indexAddr 44 (Operand.tmp 36) (Operand.tmp 37), type := 0, pos := "ref.go:175", after := #[{ on := 14, ground := Ground.data }, { on := 15, ground := Ground.data }], guard := none }) (v := ?_) rfl (by kernel_rfl) (by kernel_rfl) (by kernel_rfl) (fun _ _ _ h => h) (Or.inl ⟨by rfl, ?_⟩) (by assumption) ?_
      rotate_left
      · (intro w hSw; (try dsimp only at hSw); go_simp; try with_reducible rfl)
      simp only [Act.put, List.setIfInBounds_toArray, List.set_cons_zero, List.set_cons_succ]
      refine wpAnyH_take (i := 17) (oi := { dst := some 39, op := Op.fieldAddr 102 (Operand.tmp 38) 2, type := 0, pos := "ref.go:175", after := #[{ on := 16, ground := Ground.data }], guard := none }) (v := ?_) rfl (by kernel_rfl) (by kernel_rfl) (by kernel_rfl) (fun _ _ _ h => h) (Or.inl ⟨by rfl, ?_⟩) (by assumption) ?_
      rotate_left
      · (intro w hSw; (try dsimp only at hSw); go_simp; try with_reducible rfl)
      simp only [Act.put, List.setIfInBounds_toArray, List.set_cons_zero, List.set_cons_succ]
      refine wpAnyH_take (i := 18) (oi := { dst := some 40, op := Op.load 4 (Operand.tmp 39), type := 4, pos := "ref.go:175", after := #[{ on := 17, ground := Ground.data }], guard := none }) (v := ?_) rfl (by kernel_rfl) (by kernel_rfl) (by kernel_rfl) (fun _ _ _ h => h) (Or.inl ⟨by rfl, ?_⟩) (by assumption) ?_
      rotate_left
      · (intro w hSw; (try dsimp only at hSw); go_simp; try with_reducible rfl)
      simp only [Act.put, List.setIfInBounds_toArray, List.set_cons_zero, List.set_cons_succ]
      refine wpAnyH_ready (rs := [19]) (by kernel_rfl) (by simp) (AllReadyH.cons (o := { dst := some 41, op := Op.call { callee := Callee.value (Operand.func 35), args := #[Operand.tmp 40], argTypes := #[4] }, type := 3, pos := "ref.go:175", after := #[{ on := 18, ground := Ground.data }], guard := none }) rfl (fun K1020 hK1020 => ?_) AllReadyH.nil)
      go_simp
      refine (rbit_any x2 _).mono ?_
      rintro _ _ ⟨rfl, rfl⟩
      refine hK1020.out _ _ (hHeld) (fun hHeld1020 => ?_)
      clear hK1020 K1020
      try simp only [Act.put, List.setIfInBounds_toArray, List.set_cons_zero, List.set_cons_succ]
      refine wpAnyH_ready (rs := [20]) (by kernel_rfl) (by simp) (AllReadyH.cons (o := { dst := some 42, op := Op.buildSlice 22 3 #[(0, Operand.tmp 28), (1, Operand.tmp 34), (2, Operand.tmp 41)], type := 22, pos := "ref.go:175", after := #[{ on := 6, ground := Ground.data }, { on := 12, ground := Ground.data }, { on := 19, ground := Ground.data }], guard := none }) rfl (fun K1021 hK1021 => ?_) AllReadyH.nil)
      go_simp
      have hk1 : Below wrL1.heap.size wrL1 (wrL1.drew.alloc (.cells #[.int .i64 x0, .int .i64 x1, .int .i64 (bitI x2)] 3)) := (Below.refl _ _).drew.alloc (Nat.le_refl _) _
      have hb1 : Below w0.heap.size w0 (wrL1.drew.alloc (.cells #[.int .i64 x0, .int .i64 x1, .int .i64 (bitI x2)] 3)) := hbel.trans (hk1.mono hbel.size)
      have HO1 := hid (HO.out.below hk1)
      have HS1 := hid (show Sees (wrL1.drew.alloc (.cells #[.int .i64 x0, .int .i64 x1, .int .i64 (bitI x2)] 3)) .i64 (.slice (some ⟨wrL1.heap.size, 0, none⟩) 3 3) [x0, x1, bitI x2] from Sees.box (ys := [x0, x1, bitI x2]) (BoxAt.new wrL1.drew 3 #[.int .i64 x0, .int .i64 x1, .int .i64 (bitI x2)]) (by simp))
      refine hK1021.out _ _ (MK.out _ hb1) (fun hHeld1021 => ?_)
      clear hK1021 K1021
      try simp only [Act.put, List.setIfInBounds_toArray, List.set_cons_zero, List.set_cons_succ]
      refine wpAnyH_ready (rs := [21]) (by kernel_rfl) (by simp) (AllReadyH.cons (o := { dst := some 43, op := Op.call { callee := Callee.builtin Builtin.append, args := #[Operand.tmp 22, Operand.tmp 42], argTypes := #[22, 22] }, type := 22, pos := "ref.go:175", after := #[{ on := 0, ground := Ground.data }, { on := 20, ground := Ground.data }, { on := 19, ground := Ground.chain }], guard := none }) rfl (fun K1022 hK1022 => ?_) AllReadyH.nil)
      refine step_app_ints rfl (.tmp 22) (.tmp 42) rfl w0.heap.size _ M rfl HO1.out _ [x0, x1, bitI x2] rfl HS1.out HMB.out hb1.size ?_
      intro v2 w2 ho2 hg2 hb2
      have hbw2 := hb1.trans hb2
      have HO2 := hid ho2
      clear ho2 hg2 hb2 hb1 HO1 HS1 hk1
      refine hK1022.out _ _ (MK.out _ hbw2) (fun hHeld1022 => ?_)
      clear hK1022 K1022
      try simp only [Act.put, List.setIfInBounds_toArray, List.set_cons_zero, List.set_cons_succ]
      refine wpAnyH_take (i := 22) (oi := { dst := some 3, op := Op.assign (Operand.tmp 43), type := 22, pos := "ref.go:175", after := #[{ on := 21, ground := Ground.data }, { on := 21, ground := Ground.chain }, { on := 0, ground := Ground.phase }, { on := 1, ground := Ground.phase }, { on := 2, ground := Ground.phase }, { on := 3, ground := Ground.phase }, { on := 4, ground := Ground.phase }, { on := 5, ground := Ground.phase }, { on := 6, ground := Ground.phase }, { on := 7, ground := Ground.phase }, { on := 8, ground := Ground.phase }, { on := 9, ground := Ground.phase }, { on := 10, ground := Ground.phase }, { on := 11, ground := Ground.phase }, { on := 12, ground := Ground.phase }, { on := 13, ground := Ground.phase }, { on := 14, ground := Ground.phase }, { on := 15, ground := Ground.phase }, { on := 16, ground := Ground.phase }, { on := 17, ground := Ground.phase }, { on := 18, ground := Ground.phase }, { on := 19, ground := Ground.phase }, { on := 20, ground := Ground.phase }, { on := 21, ground := Ground.phase }], guard := none }) (v := ?_) rfl (by kernel_rfl) (by kernel_rfl) (by kernel_rfl) (fun _ _ _ h => h) (Or.inl ⟨by rfl, ?_⟩) (by assumption) ?_
      rotate_left
      · (intro w hSw; (try dsimp only at hSw); go_simp; try with_reducible rfl)
      simp only [Act.put, List.setIfInBounds_toArray, List.set_cons_zero, List.set_cons_succ]
      refine wpAnyH_done (by kernel_rfl) ?_ _
      clear hHeld hHeld1020 hHeld1021 hHeld1022
      have HNM := hid (show M ++ [x0, x1, bitI x2] = L1 ++ (p.rg.take (i + 1)).flatMap flRg by rw [HM.out, HS.out, List.append_assoc]; rfl)
      have HNL := hid (show (M ++ [x0, x1, bitI x2]).length = L1.length + 3 * (i + 1) by rw [List.length_append, hMl]; simp only [List.length_cons, List.length_nil]; omega)
      clear MK HM HS HO
      go_wp2
      go_roundw
      case rel => exact ⟨i + 1, _, by omega, by go_num, HO2.out, HNM.out, HNL.out, hbw2⟩
      case measure => simp [intOf]; omega
    · have hMe : M = L1 ++ p.rg.flatMap flRg := by rw [HM.out, List.take_of_length_le (by rw [← HN1.out]; omega)]
      have HEL2 := hid hMe
      have hLbL2 : M.length ≤ L1.length + 3 * n1 := by rw [hMl]; exact Nat.add_le_add_left (Nat.mul_le_mul_left _ hi) _
      have HOL2 := HO
      have HBL2 := hid hbel
      clear HM HO hMe hMl
      rename List Int => L2
      have e2 := ((HX.out.belowAll hbel).cell 2).trans rfl
      have HLx := hid (HOL2.out.below ((Below.refl _ _).alloc (Nat.le_refl _) (.cells #[.int .i64 (n2 : Int)] 3)))
      have HSx := hid (show Sees (wrL1.alloc (.cells #[.int .i64 (n2 : Int)] 3)) .i64 (.slice (some ⟨wrL1.heap.size, 0, none⟩) 1 1) [(n2 : Int)] from Sees.box (ys := [(n2 : Int)]) (BoxAt.new wrL1 3 #[.int .i64 (n2 : Int)]) (by simp))
      have hbx := hbel.alloc hbel.size (.cells #[.int .i64 (n2 : Int)] 3)
      have HMx := hid (show L2.length + [(n2 : Int)].length ≤ 1000000 by simp only [List.length_cons, List.length_nil]; omega)
      go_wp2_with (at_builtin; refine app_ints rfl _ _ rfl w0.heap.size _ L2 rfl HLx.out _ [(n2 : Int)] rfl HSx.out HMx.out hbx.size ?_)
      intro vL3 wL3 ho hg hb
      obtain ⟨L3, hN⟩ : ∃ N, N = L2 ++ [(n2 : Int)] := ⟨_, rfl⟩
      rw [← hN] at ho
      have HEL3 := hid hN
      have hLbL3 : L3.length ≤ L2.length + 1 := by rw [hN, List.length_append]; simp
      have HOL3 := hid ho
      have hbL3 := hbx.trans hb
      have HBL3 := hid hbL3
      clear ho hg hb hbx HLx HSx HMx hN HOL2 e2 hlt hi
      go_wp2
      go_loopw [3, 5] (fun s t wc => ∃ (i : Nat) (M : List Int), i ≤ n2 ∧ t = .int .i64 i ∧ OI wc w0.heap.size s M ∧ M = L3 ++ (p.pc.take i).flatMap flPc ∧ M.length = L3.length + 5 * i ∧ Below w0.heap.size w0 wc) (fun _ t _ => n2 - (intOf t).toNat)
      case atStart => exact ⟨0, L3, by omega, rfl, HOL3.out, by simp, by simp, HBL3.out⟩
      case round =>
        obtain ⟨i, M, hi, rfl, hO, hM, hMl, hbel⟩ := hrel
        rename World => wrL3
        have HO := hid hO
        have HM := hid hM
        clear hO hM HOL3 HBL3
        have e2 := ((HX.out.belowAll hbel).cell 2).trans rfl
        by_cases hlt : i < n2
        · have hlt' : i < p.pc.length := by rw [← HN2.out]; exact hlt
          obtain ⟨bb, off, rfl, hbw, hcell⟩ := HC2.out (by omega)
          have hc0 := hcell i hlt' 0 (by decide)
          have hc1 := hcell i hlt' 1 (by decide)
          have hc2 := hcell i hlt' 2 (by decide)
          have hc3 := hcell i hlt' 3 (by decide)
          have hc4 := hcell i hlt' 4 (by decide)
          have HS := hid (flat_snoc flPc Pc.zero p.pc i hlt')
          clear hcell hlt'
          generalize p.pc.getD i Pc.zero = x at *
          obtain ⟨x0, x1, x2, x3, x4⟩ := x
          simp only [Pc.cells, List.getD_cons_zero, List.getD_cons_succ, Nat.add_zero] at hc0 hc1 hc2 hc3 hc4
          have hblt : bb < w0.heap.size := by have := HB.out.size; omega
          have MK := hid (show ∀ w', Below w0.heap.size w0 w' → w'.cell? ⟨w.heap.size, 2, none⟩ = some (.slice (some ⟨bb, off, none⟩) n2 k2) ∧ w'.cell? ⟨bb, off + i * 5, none⟩ = some (.int .i64 x0) ∧ w'.cell? ⟨bb, off + i * 5 + 1, none⟩ = some (.int .i64 x1) ∧ w'.cell? ⟨bb, off + i * 5 + 2, none⟩ = some (.int .i64 x2) ∧ w'.cell? ⟨bb, off + i * 5 + 3, none⟩ = some (.int .i64 x3) ∧ w'.cell? ⟨bb, off + i * 5 + 4, none⟩ = some (.bool x4) from
            fun w' h => ⟨((HX.out.belowAll h).cell 2).trans rfl, ((HB.out.trans (h.mono HB.out.size)).cell (by exact hbw)).trans hc0, ((HB.out.trans (h.mono HB.out.size)).cell (by exact hbw)).trans hc1, ((HB.out.trans (h.mono HB.out.size)).cell (by exact hbw)).trans hc2, ((HB.out.trans (h.mono HB.out.size)).cell (by exact hbw)).trans hc3, ((HB.out.trans (h.mono HB.out.size)).cell (by exact hbw)).trans hc4⟩)
          have hMb : M.length + [x0, x1, x2, x3, bitI x4].length ≤ 1000000 := by simp only [List.length_cons, List.length_nil]; omega
          have HMB := hid hMb
          clear hMb hc0 hc1 hc2 hc3 hc4
          have g0 := (MK.out _ hbel).2.1
          have g1 := (MK.out _ hbel).2.2.1
          have g2 := (MK.out _ hbel).2.2.2.1
          have g3 := (MK.out _ hbel).2.2.2.2.1
          have g4 := (MK.out _ hbel).2.2.2.2.2
          go_wp2_with fail
          clear g0 g1 g2 g3 g4
          have BX := hid (BoxAt.new wrL3 90 #[.int .i64 x0, .int .i64 x1, .int .i64 x2, .int .i64 x3, .bool x4])
          have hb9 : Below w0.heap.size w0 (wrL3.alloc (.cells #[.int .i64 x0, .int .i64 x1, .int .i64 x2, .int .i64 x3, .bool x4] 90)) := hbel.alloc hbel.size _
          have hk9 : Below wrL3.heap.size wrL3 (wrL3.alloc (.cells #[.int .i64 x0, .int .i64 x1, .int .i64 x2, .int .i64 x3, .bool x4] 90)) := (Below.refl _ _).alloc (Nat.le_refl _) _
          have HO9 := hid (HO.out.below hk9)
          have HLT := hid (fun k hk => (HO.out.lt k hk).2)
          generalize hW9 : wrL3.alloc (.cells #[.int .i64 x0, .int .i64 x1, .int .i64 x2, .int .i64 x3, .bool x4] 90) = W9 at *
          have hz9 : wrL3.heap.size < W9.heap.size := by rw [← hW9]; simp
          clear hW9
          have MB := hid (show ∀ w', BoxAt w' wrL3.heap.size 90 #[.int .i64 x0, .int .i64 x1, .int .i64 x2, .int .i64 x3, .bool x4] → w'.cell? ⟨wrL3.heap.size, 0, none⟩ = some (.int .i64 x0) ∧ w'.cell? ⟨wrL3.heap.size, 1, none⟩ = some (.int .i64 x1) ∧ w'.cell? ⟨wrL3.heap.size, 2, none⟩ = some (.int .i64 x2) ∧ w'.cell? ⟨wrL3.heap.size, 3, none⟩ = some (.int .i64 x3) ∧ w'.cell? ⟨wrL3.heap.size, 4, none⟩ = some (.bool x4) from fun w' h => ⟨(h.cell 0).trans rfl, (h.cell 1).trans rfl, (h.cell 2).trans rfl, (h.cell 3).trans rfl, (h.cell 4).trans rfl⟩)
          refine wp_region_held_drew (S := (fun w' => w'.cell? ⟨wrL3.heap.size, 0, none⟩ = some (.int .i64 x0) ∧ w'.cell? ⟨wrL3.heap.size, 1, none⟩ = some (.int .i64 x1) ∧ w'.cell? ⟨wrL3.heap.size, 2, none⟩ = some (.int .i64 x2) ∧ w'.cell? ⟨wrL3.heap.size, 3, none⟩ = some (.int .i64 x3) ∧ w'.cell? ⟨wrL3.heap.size, 4, none⟩ = some (.bool x4))) (by kernel_rfl) (MB.out _ BX.out.drew) (fun hHeld => ?_)
          refine wpAnyH_take (i := 0) (oi := { dst := some 62, op := Op.move (Operand.tmp 3), type := 22, pos := "ref.go:180", after := #[], guard := none }) (v := ?_) rfl (by kernel_rfl) (by kernel_rfl) (by kernel_rfl) (fun _ _ _ h => h) (Or.inl ⟨by rfl, ?_⟩) (by assumption) ?_
          rotate_left
          · (intro w hSw; (try dsimp only at hSw); go_simp; try with_reducible rfl)
          simp only [Act.put, List.setIfInBounds_toArray, List.set_cons_zero, List.set_cons_succ]
          refine wpAnyH_take (i := 1) (oi := { dst := some 63, op := Op.fieldAddr 90 (Operand.tmp 6) 0, type := 0, pos := "ref.go:180", after := #[], guard := none }) (v := ?_) rfl (by kernel_rfl) (by kernel_rfl) (by kernel_rfl) (fun _ _ _ h => h) (Or.inl ⟨by rfl, ?_⟩) (by assumption) ?_
          rotate_left
          · (intro w hSw; (try dsimp only at hSw); go_simp; try with_reducible rfl)
          simp only [Act.put, List.setIfInBounds_toArray, List.set_cons_zero, List.set_cons_succ]
          refine wpAnyH_take (i := 2) (oi := { dst := some 64, op := Op.load 3 (Operand.tmp 63), type := 3, pos := "ref.go:180", after := #[{ on := 1, ground := Ground.data }], guard := none }) (v := ?_) rfl (by kernel_rfl) (by kernel_rfl) (by kernel_rfl) (fun _ _ _ h => h) (Or.inl ⟨by rfl, ?_⟩) (by assumption) ?_
          rotate_left
          · (intro w hSw; (try dsimp only at hSw); go_simp; try with_reducible rfl)
          simp only [Act.put, List.setIfInBounds_toArray, List.set_cons_zero, List.set_cons_succ]
          refine wpAnyH_take (i := 3) (oi := { dst := some 65, op := Op.fieldAddr 90 (Operand.tmp 6) 1, type := 0, pos := "ref.go:180", after := #[], guard := none }) (v := ?_) rfl (by kernel_rfl) (by kernel_rfl) (by kernel_rfl) (fun _ _ _ h => h) (Or.inl ⟨by rfl, ?_⟩) (by assumption) ?_
          rotate_left
          · (intro w hSw; (try dsimp only at hSw); go_simp; try with_reducible rfl)
          simp only [Act.put, List.setIfInBounds_toArray, List.set_cons_zero, List.set_cons_succ]
          refine wpAnyH_take (i := 4) (oi := { dst := some 66, op := Op.load 3 (Operand.tmp 65), type := 3, pos := "ref.go:180", after := #[{ on := 3, ground := Ground.data }], guard := none }) (v := ?_) rfl (by kernel_rfl) (by kernel_rfl) (by kernel_rfl) (fun _ _ _ h => h) (Or.inl ⟨by rfl, ?_⟩) (by assumption) ?_
          rotate_left
          · (intro w hSw; (try dsimp only at hSw); go_simp; try with_reducible rfl)
          simp only [Act.put, List.setIfInBounds_toArray, List.set_cons_zero, List.set_cons_succ]
          refine wpAnyH_take (i := 5) (oi := { dst := some 67, op := Op.fieldAddr 90 (Operand.tmp 6) 2, type := 0, pos := "ref.go:180", after := #[], guard := none }) (v := ?_) rfl (by kernel_rfl) (by kernel_rfl) (by kernel_rfl) (fun _ _ _ h => h) (Or.inl ⟨by rfl, ?_⟩) (by assumption) ?_
          rotate_left
          · (intro w hSw; (try dsimp only at hSw); go_simp; try with_reducible rfl)
          simp only [Act.put, List.setIfInBounds_toArray, List.set_cons_zero, List.set_cons_succ]
          refine wpAnyH_take (i := 6) (oi := { dst := some 68, op := Op.load 3 (Operand.tmp 67), type := 3, pos := "ref.go:180", after := #[{ on := 5, ground := Ground.data }], guard := none }) (v := ?_) rfl (by kernel_rfl) (by kernel_rfl) (by kernel_rfl) (fun _ _ _ h => h) (Or.inl ⟨by rfl, ?_⟩) (by assumption) ?_
          rotate_left
          · (intro w hSw; (try dsimp only at hSw); go_simp; try with_reducible rfl)
          simp only [Act.put, List.setIfInBounds_toArray, List.set_cons_zero, List.set_cons_succ]
          refine wpAnyH_take (i := 7) (oi := { dst := some 69, op := Op.fieldAddr 90 (Operand.tmp 6) 3, type := 0, pos := "ref.go:180", after := #[], guard := none }) (v := ?_) rfl (by kernel_rfl) (by kernel_rfl) (by kernel_rfl) (fun _ _ _ h => h) (Or.inl ⟨by rfl, ?_⟩) (by assumption) ?_
          rotate_left
          · (intro w hSw; (try dsimp only at hSw); go_simp; try with_reducible rfl)
          simp only [Act.put, List.setIfInBounds_toArray, List.set_cons_zero, List.set_cons_succ]
          refine wpAnyH_take (i := 8) (oi := { dst := some 70, op := Op.load 3 (Operand.tmp 69), type := 3, pos := "ref.go:180", after := #[{ on := 7, ground := Ground.data }], guard := none }) (v := ?_) rfl (by kernel_rfl) (by kernel_rfl) (by kernel_rfl) (fun _ _ _ h => h) (Or.inl ⟨by rfl, ?_⟩) (by assumption) ?_
          rotate_left
          · (intro w hSw; (try dsimp only at hSw); go_simp; try with_reducible rfl)
          simp only [Act.put, List.setIfInBounds_toArray, List.set_cons_zero, List.set_cons_succ]
          refine wpAnyH_take (i := 9) (oi := { dst := some 71, op := Op.fieldAddr 90 (Operand.tmp 6) 4, type := 0, pos := "ref.go:180", after := #[], guard := none }) (v := ?_) rfl (by kernel_rfl) (by kernel_rfl) (by kernel_rfl) (fun _ _ _ h => h) (Or.inl ⟨by rfl, ?_⟩) (by assumption) ?_
          rotate_left
          · (intro w hSw; (try dsimp only at hSw); go_simp; try with_reducible rfl)
          simp only [Act.put, List.setIfInBounds_toArray, List.set_cons_zero, List.set_cons_succ]
          refine wpAnyH_take (i := 10) (oi := { dst := some 72, op := Op.load 4 (Operand.tmp 71), type := 4, pos := "ref.go:180", after := #[{ on := 9, ground := Ground.data }], guard := none }) (v := ?_) rfl (by kernel_rfl) (by kernel_rfl) (by kernel_rfl) (fun _ _ _ h => h) (Or.inl ⟨by rfl, ?_⟩) (by assumption) ?_
          rotate_left
          · (intro w hSw; (try dsimp only at hSw); go_simp; try with_reducible rfl)
          simp only [Act.put, List.setIfInBounds_toArray, List.set_cons_zero, List.set_cons_succ]
          refine wpAnyH_ready (rs := [11]) (by kernel_rfl) (by simp) (AllReadyH.cons (o := { dst := some 73, op := Op.call { callee := Callee.value (Operand.func 35), args := #[Operand.tmp 72], argTypes := #[4] }, type := 3, pos := "ref.go:180", after := #[{ on := 10, ground := Ground.data }], guard := none }) rfl (fun K2012 hK2012 => ?_) AllReadyH.nil)
          go_simp
          refine (rbit_any x4 _).mono ?_
          rintro _ _ ⟨rfl, rfl⟩
          refine hK2012.out _ _ (hHeld) (fun hHeld2012 => ?_)
          clear hK2012 K2012
          try simp only [Act.put, List.setIfInBounds_toArray, List.set_cons_zero, List.set_cons_succ]
          refine wpAnyH_ready (rs := [12]) (by kernel_rfl) (by simp) (AllReadyH.cons (o := { dst := some 74, op := Op.buildSlice 22 5 #[(0, Operand.tmp 64), (1, Operand.tmp 66), (2, Operand.tmp 68), (3, Operand.tmp 70), (4, Operand.tmp 73)], type := 22, pos := "ref.go:180", after := #[{ on := 2, ground := Ground.data }, { on := 4, ground := Ground.data }, { on := 6, ground := Ground.data }, { on := 8, ground := Ground.data }, { on := 11, ground := Ground.data }], guard := none }) rfl (fun K2013 hK2013 => ?_) AllReadyH.nil)
          go_simp
          have hk1 : Below W9.heap.size W9 (W9.drew.alloc (.cells #[.int .i64 x0, .int .i64 x1, .int .i64 x2, .int .i64 x3, .int .i64 (bitI x4)] 3)) := (Below.refl _ _).drew.alloc (Nat.le_refl _) _
          have hb1 : Below w0.heap.size w0 (W9.drew.alloc (.cells #[.int .i64 x0, .int .i64 x1, .int .i64 x2, .int .i64 x3, .int .i64 (bitI x4)] 3)) := hb9.trans (hk1.mono hb9.size)
          have HO1 := hid (HO9.out.below hk1)
          have HS1 := hid (show Sees (W9.drew.alloc (.cells #[.int .i64 x0, .int .i64 x1, .int .i64 x2, .int .i64 x3, .int .i64 (bitI x4)] 3)) .i64 (.slice (some ⟨W9.heap.size, 0, none⟩) 5 5) [x0, x1, x2, x3, bitI x4] from Sees.box (ys := [x0, x1, x2, x3, bitI x4]) (BoxAt.new W9.drew 3 #[.int .i64 x0, .int .i64 x1, .int .i64 x2, .int .i64 x3, .int .i64 (bitI x4)]) (by simp))
          have BX1 := hid (BX.out.belowAll hk1)
          refine hK2013.out _ _ (MB.out _ BX1.out) (fun hHeld2013 => ?_)
          clear hK2013 K2013
          try simp only [Act.put, List.setIfInBounds_toArray, List.set_cons_zero, List.set_cons_succ]
          refine wpAnyH_ready (rs := [13]) (by kernel_rfl) (by simp) (AllReadyH.cons (o := { dst := some 75, op := Op.call { callee := Callee.builtin Builtin.append, args := #[Operand.tmp 62, Operand.tmp 74], argTypes := #[22, 22] }, type := 22, pos := "ref.go:180", after := #[{ on := 0, ground := Ground.data }, { on := 12, ground := Ground.data }, { on := 11, ground := Ground.chain }], guard := none }) rfl (fun K2014 hK2014 => ?_) AllReadyH.nil)
          refine step_app_ints rfl (.tmp 62) (.tmp 74) rfl w0.heap.size _ M rfl HO1.out _ [x0, x1, x2, x3, bitI x4] rfl HS1.out HMB.out hb1.size ?_
          intro v2 w2 ho2 hg2 hb2
          have hbw2 := hb1.trans hb2
          have HO2 := hid ho2
          have BX2 := hid (BX1.out.grown hg2 (fun e => by have := HLT.out _ e.symm; omega))
          clear ho2 hg2 hb2 hb1 HO1 HS1 hk1
          refine hK2014.out _ _ (MB.out _ BX2.out) (fun hHeld2014 => ?_)
          clear hK2014 K2014
          try simp only [Act.put, List.setIfInBounds_toArray, List.set_cons_zero, List.set_cons_succ]
          refine wpAnyH_take (i := 14) (oi := { dst := some 3, op := Op.assign (Operand.tmp 75), type := 22, pos := "ref.go:180", after := #[{ on := 13, ground := Ground.data }, { on := 13, ground := Ground.chain }, { on := 0, ground := Ground.phase }, { on := 1, ground := Ground.phase }, { on := 2, ground := Ground.phase }, { on := 3, ground := Ground.phase }, { on := 4, ground := Ground.phase }, { on := 5, ground := Ground.phase }, { on := 6, ground := Ground.phase }, { on := 7, ground := Ground.phase }, { on := 8, ground := Ground.phase }, { on := 9, ground := Ground.phase }, { on := 10, ground := Ground.phase }, { on := 11, ground := Ground.phase }, { on := 12, ground := Ground.phase }, { on := 13, ground := Ground.phase }], guard := none }) (v := ?_) rfl (by kernel_rfl) (by kernel_rfl) (by kernel_rfl) (fun _ _ _ h => h) (Or.inl ⟨by rfl, ?_⟩) (by assumption) ?_
          rotate_left
          · (intro w hSw; (try dsimp only at hSw); go_simp; try with_reducible rfl)
          simp only [Act.put, List.setIfInBounds_toArray, List.set_cons_zero, List.set_cons_succ]
          refine wpAnyH_done (by kernel_rfl) ?_ _
          clear hHeld hHeld2012 hHeld2013 hHeld2014
          have HNM := hid (show M ++ [x0, x1, x2, x3, bitI x4] = L3 ++ (p.pc.take (i + 1)).flatMap flPc by rw [HM.out, HS.out, List.append_assoc]; rfl)
          have HNL := hid (show (M ++ [x0, x1, x2, x3, bitI x4]).length = L3.length + 5 * (i + 1) by rw [List.length_append, hMl]; simp only [List.length_cons, List.length_nil]; omega)
          clear MK HM HS HO
          go_wp2
          go_roundw
          case rel => exact ⟨i + 1, _, by omega, by go_num, HO2.out, HNM.out, HNL.out, hbw2⟩
          case measure => simp [intOf]; omega
        · have hMe : M = L3 ++ p.pc.flatMap flPc := by rw [HM.out, List.take_of_length_le (by rw [← HN2.out]; omega)]
          have HEL4 := hid hMe
          have hLbL4 : M.length ≤ L3.length + 5 * n2 := by rw [hMl]; exact Nat.add_le_add_left (Nat.mul_le_mul_left _ hi) _
          have HOL4 := HO
          have HBL4 := hid hbel
          clear HM HO hMe hMl
          rename List Int => L4
          have e3 := ((HX.out.belowAll hbel).cell 3).trans rfl
          have e4 := ((HX.out.belowAll hbel).cell 4).trans rfl
          have HLx := hid (HOL4.out.below ((Below.refl _ _).alloc (Nat.le_refl _) (.cells #[.int .i64 p.bo, .int .i64 (n4 : Int)] 3)))
          have HSx := hid (show Sees (wrL3.alloc (.cells #[.int .i64 p.bo, .int .i64 (n4 : Int)] 3)) .i64 (.slice (some ⟨wrL3.heap.size, 0, none⟩) 2 2) [p.bo, (n4 : Int)] from Sees.box (ys := [p.bo, (n4 : Int)]) (BoxAt.new wrL3 3 #[.int .i64 p.bo, .int .i64 (n4 : Int)]) (by simp))
          have hbx := hbel.alloc hbel.size (.cells #[.int .i64 p.bo, .int .i64 (n4 : Int)] 3)
          have HMx := hid (show L4.length + [p.bo, (n4 : Int)].length ≤ 1000000 by simp only [List.length_cons, List.length_nil]; omega)
          go_wp2_with (at_builtin; refine app_ints rfl _ _ rfl w0.heap.size _ L4 rfl HLx.out _ [p.bo, (n4 : Int)] rfl HSx.out HMx.out hbx.size ?_)
          intro vL5 wL5 ho hg hb
          obtain ⟨L5, hN⟩ : ∃ N, N = L4 ++ [p.bo, (n4 : Int)] := ⟨_, rfl⟩
          rw [← hN] at ho
          have HEL5 := hid hN
          have hLbL5 : L5.length ≤ L4.length + 2 := by rw [hN, List.length_append]; simp
          have HOL5 := hid ho
          have hbL5 := hbx.trans hb
          have HBL5 := hid hbL5
          clear ho hg hb hbx HLx HSx HMx hN HOL4 e3 e4 hlt hi
          go_wp2
          go_loopw [3, 7] (fun s t wc => ∃ (i : Nat) (M : List Int), i ≤ n4 ∧ t = .int .i64 i ∧ OI wc w0.heap.size s M ∧ M = L5 ++ (p.bc.take i).flatMap flBc ∧ M.length = L5.length + 2 * i ∧ Below w0.heap.size w0 wc) (fun _ t _ => n4 - (intOf t).toNat)
          case atStart => exact ⟨0, L5, by omega, rfl, HOL5.out, by simp, by simp, HBL5.out⟩
          case round =>
            obtain ⟨i, M, hi, rfl, hO, hM, hMl, hbel⟩ := hrel
            rename World => wrL5
            have HO := hid hO
            have HM := hid hM
            clear hO hM HOL5 HBL5
            have e4 := ((HX.out.belowAll hbel).cell 4).trans rfl
            by_cases hlt : i < n4
            · have hlt' : i < p.bc.length := by rw [← HN4.out]; exact hlt
              obtain ⟨bb, off, rfl, hbw, hcell⟩ := HC4.out (by omega)
              have hc0 := hcell i hlt' 0 (by decide)
              have hc1 := hcell i hlt' 1 (by decide)
              have HS := hid (flat_snoc flBc Bc.zero p.bc i hlt')
              clear hcell hlt'
              generalize p.bc.getD i Bc.zero = x at *
              obtain ⟨x0, x1⟩ := x
              simp only [Bc.cells, List.getD_cons_zero, List.getD_cons_succ, Nat.add_zero] at hc0 hc1
              have hblt : bb < w0.heap.size := by have := HB.out.size; omega
              have MK := hid (show ∀ w', Below w0.heap.size w0 w' → w'.cell? ⟨w.heap.size, 4, none⟩ = some (.slice (some ⟨bb, off, none⟩) n4 k4) ∧ w'.cell? ⟨bb, off + i * 2, none⟩ = some (.int .i64 x0) ∧ w'.cell? ⟨bb, off + i * 2 + 1, none⟩ = some (.bool x1) from
                fun w' h => ⟨((HX.out.belowAll h).cell 4).trans rfl, ((HB.out.trans (h.mono HB.out.size)).cell (by exact hbw)).trans hc0, ((HB.out.trans (h.mono HB.out.size)).cell (by exact hbw)).trans hc1⟩)
              have hMb : M.length + [x0, bitI x1].length ≤ 1000000 := by simp only [List.length_cons, List.length_nil]; omega
              have HMB := hid hMb
              clear hMb hc0 hc1
              go_wp2_with fail
              refine wp_region_held_drew (S := (fun w' => w'.cell? ⟨w.heap.size, 4, none⟩ = some (.slice (some ⟨bb, off, none⟩) n4 k4) ∧ w'.cell? ⟨bb, off + i * 2, none⟩ = some (.int .i64 x0) ∧ w'.cell? ⟨bb, off + i * 2 + 1, none⟩ = some (.bool x1))) (by kernel_rfl) (MK.out _ hbel.drew) (fun hHeld => ?_)
              refine wpAnyH_take (i := 0) (oi := { dst := some 91, op := Op.move (Operand.tmp 3), type := 22, pos := "ref.go:184", after := #[], guard := none }) (v := ?_) rfl (by kernel_rfl) (by kernel_rfl) (by kernel_rfl) (fun _ _ _ h => h) (Or.inl ⟨by rfl, ?_⟩) (by assumption) ?_
              rotate_left
              · (intro w hSw; (try dsimp only at hSw); go_simp; try with_reducible rfl)
              simp only [Act.put, List.setIfInBounds_toArray, List.set_cons_zero, List.set_cons_succ]
              refine wpAnyH_take (i := 1) (oi := { dst := some 92, op := Op.fieldAddr 49 (Operand.tmp 1) 4, type := 0, pos := "ref.go:184", after := #[], guard := none }) (v := ?_) rfl (by kernel_rfl) (by kernel_rfl) (by kernel_rfl) (fun _ _ _ h => h) (Or.inl ⟨by rfl, ?_⟩) (by assumption) ?_
              rotate_left
              · (intro w hSw; (try dsimp only at hSw); go_simp; try with_reducible rfl)
              simp only [Act.put, List.setIfInBounds_toArray, List.set_cons_zero, List.set_cons_succ]
              refine wpAnyH_take (i := 2) (oi := { dst := some 93, op := Op.load 46 (Operand.tmp 92), type := 46, pos := "ref.go:184", after := #[{ on := 1, ground := Ground.data }], guard := none }) (v := ?_) rfl (by kernel_rfl) (by kernel_rfl) (by kernel_rfl) (fun _ _ _ h => h) (Or.inl ⟨by rfl, ?_⟩) (by assumption) ?_
              rotate_left
              · (intro w hSw; (try dsimp only at hSw); go_simp; try with_reducible rfl)
              simp only [Act.put, List.setIfInBounds_toArray, List.set_cons_zero, List.set_cons_succ]
              refine wpAnyH_take (i := 3) (oi := { dst := some 94, op := Op.move (Operand.tmp 7), type := 3, pos := "ref.go:184", after := #[], guard := none }) (v := ?_) rfl (by kernel_rfl) (by kernel_rfl) (by kernel_rfl) (fun _ _ _ h => h) (Or.inl ⟨by rfl, ?_⟩) (by assumption) ?_
              rotate_left
              · (intro w hSw; (try dsimp only at hSw); go_simp; try with_reducible rfl)
              simp only [Act.put, List.setIfInBounds_toArray, List.set_cons_zero, List.set_cons_succ]
              refine wpAnyH_take (i := 4) (oi := { dst := some 95, op := Op.indexAddr 46 (Operand.tmp 93) (Operand.tmp 94), type := 0, pos := "ref.go:184", after := #[{ on := 2, ground := Ground.data }, { on := 3, ground := Ground.data }], guard := none }) (v := ?_) rfl (by kernel_rfl) (by kernel_rfl) (by kernel_rfl) (fun _ _ _ h => h) (Or.inl ⟨by rfl, ?_⟩) (by assumption) ?_
              rotate_left
              · (intro w hSw; (try dsimp only at hSw); go_simp; try with_reducible rfl)
              simp only [Act.put, List.setIfInBounds_toArray, List.set_cons_zero, List.set_cons_succ]
              refine wpAnyH_take (i := 5) (oi := { dst := some 96, op := Op.fieldAddr 104 (Operand.tmp 95) 0, type := 0, pos := "ref.go:184", after := #[{ on := 4, ground := Ground.data }], guard := none }) (v := ?_) rfl (by kernel_rfl) (by kernel_rfl) (by kernel_rfl) (fun _ _ _ h => h) (Or.inl ⟨by rfl, ?_⟩) (by assumption) ?_
              rotate_left
              · (intro w hSw; (try dsimp only at hSw); go_simp; try with_reducible rfl)
              simp only [Act.put, List.setIfInBounds_toArray, List.set_cons_zero, List.set_cons_succ]
              refine wpAnyH_take (i := 6) (oi := { dst := some 97, op := Op.load 3 (Operand.tmp 96), type := 3, pos := "ref.go:184", after := #[{ on := 5, ground := Ground.data }], guard := none }) (v := ?_) rfl (by kernel_rfl) (by kernel_rfl) (by kernel_rfl) (fun _ _ _ h => h) (Or.inl ⟨by rfl, ?_⟩) (by assumption) ?_
              rotate_left
              · (intro w hSw; (try dsimp only at hSw); go_simp; try with_reducible rfl)
              simp only [Act.put, List.setIfInBounds_toArray, List.set_cons_zero, List.set_cons_succ]
              refine wpAnyH_take (i := 7) (oi := { dst := some 98, op := Op.fieldAddr 49 (Operand.tmp 1) 4, type := 0, pos := "ref.go:184", after := #[], guard := none }) (v := ?_) rfl (by kernel_rfl) (by kernel_rfl) (by kernel_rfl) (fun _ _ _ h => h) (Or.inl ⟨by rfl, ?_⟩) (by assumption) ?_
              rotate_left
              · (intro w hSw; (try dsimp only at hSw); go_simp; try with_reducible rfl)
              simp only [Act.put, List.setIfInBounds_toArray, List.set_cons_zero, List.set_cons_succ]
              refine wpAnyH_take (i := 8) (oi := { dst := some 99, op := Op.load 46 (Operand.tmp 98), type := 46, pos := "ref.go:184", after := #[{ on := 7, ground := Ground.data }], guard := none }) (v := ?_) rfl (by kernel_rfl) (by kernel_rfl) (by kernel_rfl) (fun _ _ _ h => h) (Or.inl ⟨by rfl, ?_⟩) (by assumption) ?_
              rotate_left
              · (intro w hSw; (try dsimp only at hSw); go_simp; try with_reducible rfl)
              simp only [Act.put, List.setIfInBounds_toArray, List.set_cons_zero, List.set_cons_succ]
              refine wpAnyH_take (i := 9) (oi := { dst := some 100, op := Op.move (Operand.tmp 7), type := 3, pos := "ref.go:184", after := #[], guard := none }) (v := ?_) rfl (by kernel_rfl) (by kernel_rfl) (by kernel_rfl) (fun _ _ _ h => h) (Or.inl ⟨by rfl, ?_⟩) (by assumption) ?_
              rotate_left
              · (intro w hSw; (try dsimp only at hSw); go_simp; try with_reducible rfl)
              simp only [Act.put, List.setIfInBounds_toArray, List.set_cons_zero, List.set_cons_succ]
              refine wpAnyH_take (i := 10) (oi := { dst := some 101, op := Op.indexAddr 46 (Operand.tmp 99) (Operand.tmp 100), type := 0, pos := "ref.go:184", after := #[{ on := 8, ground := Ground.data }, { on := 9, ground := Ground.data }], guard := none }) (v := ?_) rfl (by kernel_rfl) (by kernel_rfl) (by kernel_rfl) (fun _ _ _ h => h) (Or.inl ⟨by rfl, ?_⟩) (by assumption) ?_
              rotate_left
              · (intro w hSw; (try dsimp only at hSw); go_simp; try with_reducible rfl)
              simp only [Act.put, List.setIfInBounds_toArray, List.set_cons_zero, List.set_cons_succ]
              refine wpAnyH_take (i := 11) (oi := { dst := some 102, op := Op.fieldAddr 104 (Operand.tmp 101) 1, type := 0, pos := "ref.go:184", after := #[{ on := 10, ground := Ground.data }], guard := none }) (v := ?_) rfl (by kernel_rfl) (by kernel_rfl) (by kernel_rfl) (fun _ _ _ h => h) (Or.inl ⟨by rfl, ?_⟩) (by assumption) ?_
              rotate_left
              · (intro w hSw; (try dsimp only at hSw); go_simp; try with_reducible rfl)
              simp only [Act.put, List.setIfInBounds_toArray, List.set_cons_zero, List.set_cons_succ]
              refine wpAnyH_take (i := 12) (oi := { dst := some 103, op := Op.load 4 (Operand.tmp 102), type := 4, pos := "ref.go:184", after := #[{ on := 11, ground := Ground.data }], guard := none }) (v := ?_) rfl (by kernel_rfl) (by kernel_rfl) (by kernel_rfl) (fun _ _ _ h => h) (Or.inl ⟨by rfl, ?_⟩) (by assumption) ?_
              rotate_left
              · (intro w hSw; (try dsimp only at hSw); go_simp; try with_reducible rfl)
              simp only [Act.put, List.setIfInBounds_toArray, List.set_cons_zero, List.set_cons_succ]
              refine wpAnyH_ready (rs := [13]) (by kernel_rfl) (by simp) (AllReadyH.cons (o := { dst := some 104, op := Op.call { callee := Callee.value (Operand.func 35), args := #[Operand.tmp 103], argTypes := #[4] }, type := 3, pos := "ref.go:184", after := #[{ on := 12, ground := Ground.data }], guard := none }) rfl (fun K3014 hK3014 => ?_) AllReadyH.nil)
              go_simp
              refine (rbit_any x1 _).mono ?_
              rintro _ _ ⟨rfl, rfl⟩
              refine hK3014.out _ _ (hHeld) (fun hHeld3014 => ?_)
              clear hK3014 K3014
              try simp only [Act.put, List.setIfInBounds_toArray, List.set_cons_zero, List.set_cons_succ]
              refine wpAnyH_ready (rs := [14]) (by kernel_rfl) (by simp) (AllReadyH.cons (o := { dst := some 105, op := Op.buildSlice 22 2 #[(0, Operand.tmp 97), (1, Operand.tmp 104)], type := 22, pos := "ref.go:184", after := #[{ on := 6, ground := Ground.data }, { on := 13, ground := Ground.data }], guard := none }) rfl (fun K3015 hK3015 => ?_) AllReadyH.nil)
              go_simp
              have hk1 : Below wrL5.heap.size wrL5 (wrL5.drew.alloc (.cells #[.int .i64 x0, .int .i64 (bitI x1)] 3)) := (Below.refl _ _).drew.alloc (Nat.le_refl _) _
              have hb1 : Below w0.heap.size w0 (wrL5.drew.alloc (.cells #[.int .i64 x0, .int .i64 (bitI x1)] 3)) := hbel.trans (hk1.mono hbel.size)
              have HO1 := hid (HO.out.below hk1)
              have HS1 := hid (show Sees (wrL5.drew.alloc (.cells #[.int .i64 x0, .int .i64 (bitI x1)] 3)) .i64 (.slice (some ⟨wrL5.heap.size, 0, none⟩) 2 2) [x0, bitI x1] from Sees.box (ys := [x0, bitI x1]) (BoxAt.new wrL5.drew 3 #[.int .i64 x0, .int .i64 (bitI x1)]) (by simp))
              refine hK3015.out _ _ (MK.out _ hb1) (fun hHeld3015 => ?_)
              clear hK3015 K3015
              try simp only [Act.put, List.setIfInBounds_toArray, List.set_cons_zero, List.set_cons_succ]
              refine wpAnyH_ready (rs := [15]) (by kernel_rfl) (by simp) (AllReadyH.cons (o := { dst := some 106, op := Op.call { callee := Callee.builtin Builtin.append, args := #[Operand.tmp 91, Operand.tmp 105], argTypes := #[22, 22] }, type := 22, pos := "ref.go:184", after := #[{ on := 0, ground := Ground.data }, { on := 14, ground := Ground.data }, { on := 13, ground := Ground.chain }], guard := none }) rfl (fun K3016 hK3016 => ?_) AllReadyH.nil)
              refine step_app_ints rfl (.tmp 91) (.tmp 105) rfl w0.heap.size _ M rfl HO1.out _ [x0, bitI x1] rfl HS1.out HMB.out hb1.size ?_
              intro v2 w2 ho2 hg2 hb2
              have hbw2 := hb1.trans hb2
              have HO2 := hid ho2
              clear ho2 hg2 hb2 hb1 HO1 HS1 hk1
              refine hK3016.out _ _ (MK.out _ hbw2) (fun hHeld3016 => ?_)
              clear hK3016 K3016
              try simp only [Act.put, List.setIfInBounds_toArray, List.set_cons_zero, List.set_cons_succ]
              refine wpAnyH_take (i := 16) (oi := { dst := some 3, op := Op.assign (Operand.tmp 106), type := 22, pos := "ref.go:184", after := #[{ on := 15, ground := Ground.data }, { on := 15, ground := Ground.chain }, { on := 0, ground := Ground.phase }, { on := 1, ground := Ground.phase }, { on := 2, ground := Ground.phase }, { on := 3, ground := Ground.phase }, { on := 4, ground := Ground.phase }, { on := 5, ground := Ground.phase }, { on := 6, ground := Ground.phase }, { on := 7, ground := Ground.phase }, { on := 8, ground := Ground.phase }, { on := 9, ground := Ground.phase }, { on := 10, ground := Ground.phase }, { on := 11, ground := Ground.phase }, { on := 12, ground := Ground.phase }, { on := 13, ground := Ground.phase }, { on := 14, ground := Ground.phase }, { on := 15, ground := Ground.phase }], guard := none }) (v := ?_) rfl (by kernel_rfl) (by kernel_rfl) (by kernel_rfl) (fun _ _ _ h => h) (Or.inl ⟨by rfl, ?_⟩) (by assumption) ?_
              rotate_left
              · (intro w hSw; (try dsimp only at hSw); go_simp; try with_reducible rfl)
              simp only [Act.put, List.setIfInBounds_toArray, List.set_cons_zero, List.set_cons_succ]
              refine wpAnyH_done (by kernel_rfl) ?_ _
              clear hHeld hHeld3014 hHeld3015 hHeld3016
              have HNM := hid (show M ++ [x0, bitI x1] = L5 ++ (p.bc.take (i + 1)).flatMap flBc by rw [HM.out, HS.out, List.append_assoc]; rfl)
              have HNL := hid (show (M ++ [x0, bitI x1]).length = L5.length + 2 * (i + 1) by rw [List.length_append, hMl]; simp only [List.length_cons, List.length_nil]; omega)
              clear MK HM HS HO
              go_wp2
              go_roundw
              case rel => exact ⟨i + 1, _, by omega, by go_num, HO2.out, HNM.out, HNL.out, hbw2⟩
              case measure => simp [intOf]; omega
            · have hMe : M = L5 ++ p.bc.flatMap flBc := by rw [HM.out, List.take_of_length_le (by rw [← HN4.out]; omega)]
              have HEL6 := hid hMe
              have hLbL6 : M.length ≤ L5.length + 2 * n4 := by rw [hMl]; exact Nat.add_le_add_left (Nat.mul_le_mul_left _ hi) _
              have HOL6 := HO
              have HBL6 := hid hbel
              clear HM HO hMe hMl
              rename List Int => L6
              have e5 := ((HX.out.belowAll hbel).cell 5).trans rfl
              have HLx := hid (HOL6.out.below ((Below.refl _ _).alloc (Nat.le_refl _) (.cells #[.int .i64 (n5 : Int)] 3)))
              have HSx := hid (show Sees (wrL5.alloc (.cells #[.int .i64 (n5 : Int)] 3)) .i64 (.slice (some ⟨wrL5.heap.size, 0, none⟩) 1 1) [(n5 : Int)] from Sees.box (ys := [(n5 : Int)]) (BoxAt.new wrL5 3 #[.int .i64 (n5 : Int)]) (by simp))
              have hbx := hbel.alloc hbel.size (.cells #[.int .i64 (n5 : Int)] 3)
              have HMx := hid (show L6.length + [(n5 : Int)].length ≤ 1000000 by simp only [List.length_cons, List.length_nil]; omega)
              go_wp2_with (at_builtin; refine app_ints rfl _ _ rfl w0.heap.size _ L6 rfl HLx.out _ [(n5 : Int)] rfl HSx.out HMx.out hbx.size ?_)
              intro vL7 wL7 ho hg hb
              obtain ⟨L7, hN⟩ : ∃ N, N = L6 ++ [(n5 : Int)] := ⟨_, rfl⟩
              rw [← hN] at ho
              have HEL7 := hid hN
              have hLbL7 : L7.length ≤ L6.length + 1 := by rw [hN, List.length_append]; simp
              have HOL7 := hid ho
              have hbL7 := hbx.trans hb
              have HBL7 := hid hbL7
              clear ho hg hb hbx HLx HSx HMx hN HOL6 e5 hlt hi
              go_wp2
              go_loopw [3, 8] (fun s t wc => ∃ (i : Nat) (M : List Int), i ≤ n5 ∧ t = .int .i64 i ∧ OI wc w0.heap.size s M ∧ M = L7 ++ (p.sc.take i).flatMap flSc ∧ M.length = L7.length + 3 * i ∧ Below w0.heap.size w0 wc) (fun _ t _ => n5 - (intOf t).toNat)
              case atStart => exact ⟨0, L7, by omega, rfl, HOL7.out, by simp, by simp, HBL7.out⟩
              case round =>
                obtain ⟨i, M, hi, rfl, hO, hM, hMl, hbel⟩ := hrel
                rename World => wrL7
                have HO := hid hO
                have HM := hid hM
                clear hO hM HOL7 HBL7
                have e5 := ((HX.out.belowAll hbel).cell 5).trans rfl
                by_cases hlt : i < n5
                · have hlt' : i < p.sc.length := by rw [← HN5.out]; exact hlt
                  obtain ⟨bb, off, rfl, hbw, hcell⟩ := HC5.out (by omega)
                  have hc0 := hcell i hlt' 0 (by decide)
                  have hc1 := hcell i hlt' 1 (by decide)
                  have hc2 := hcell i hlt' 2 (by decide)
                  have HS := hid (flat_snoc flSc Sc.zero p.sc i hlt')
                  clear hcell hlt'
                  generalize p.sc.getD i Sc.zero = x at *
                  obtain ⟨x0, x1, x2⟩ := x
                  simp only [Sc.cells, List.getD_cons_zero, List.getD_cons_succ, Nat.add_zero] at hc0 hc1 hc2
                  have hblt : bb < w0.heap.size := by have := HB.out.size; omega
                  have MK := hid (show ∀ w', Below w0.heap.size w0 w' → w'.cell? ⟨w.heap.size, 5, none⟩ = some (.slice (some ⟨bb, off, none⟩) n5 k5) ∧ w'.cell? ⟨bb, off + i * 3, none⟩ = some (.int .i64 x0) ∧ w'.cell? ⟨bb, off + i * 3 + 1, none⟩ = some (.int .i64 x1) ∧ w'.cell? ⟨bb, off + i * 3 + 2, none⟩ = some (.bool x2) from
                    fun w' h => ⟨((HX.out.belowAll h).cell 5).trans rfl, ((HB.out.trans (h.mono HB.out.size)).cell (by exact hbw)).trans hc0, ((HB.out.trans (h.mono HB.out.size)).cell (by exact hbw)).trans hc1, ((HB.out.trans (h.mono HB.out.size)).cell (by exact hbw)).trans hc2⟩)
                  have hMb : M.length + [x0, x1, bitI x2].length ≤ 1000000 := by simp only [List.length_cons, List.length_nil]; omega
                  have HMB := hid hMb
                  clear hMb hc0 hc1 hc2
                  go_wp2_with fail
                  refine wp_region_held_drew (S := (fun w' => w'.cell? ⟨w.heap.size, 5, none⟩ = some (.slice (some ⟨bb, off, none⟩) n5 k5) ∧ w'.cell? ⟨bb, off + i * 3, none⟩ = some (.int .i64 x0) ∧ w'.cell? ⟨bb, off + i * 3 + 1, none⟩ = some (.int .i64 x1) ∧ w'.cell? ⟨bb, off + i * 3 + 2, none⟩ = some (.bool x2))) (by kernel_rfl) (MK.out _ hbel.drew) (fun hHeld => ?_)
                  refine wpAnyH_take (i := 0) (oi := { dst := some 120, op := Op.move (Operand.tmp 3), type := 22, pos := "ref.go:188", after := #[], guard := none }) (v := ?_) rfl (by kernel_rfl) (by kernel_rfl) (by kernel_rfl) (fun _ _ _ h => h) (Or.inl ⟨by rfl, ?_⟩) (by assumption) ?_
                  rotate_left
                  · (intro w hSw; (try dsimp only at hSw); go_simp; try with_reducible rfl)
                  simp only [Act.put, List.setIfInBounds_toArray, List.set_cons_zero, List.set_cons_succ]
                  refine wpAnyH_take (i := 1) (oi := { dst := some 121, op := Op.fieldAddr 49 (Operand.tmp 1) 5, type := 0, pos := "ref.go:188", after := #[], guard := none }) (v := ?_) rfl (by kernel_rfl) (by kernel_rfl) (by kernel_rfl) (fun _ _ _ h => h) (Or.inl ⟨by rfl, ?_⟩) (by assumption) ?_
                  rotate_left
                  · (intro w hSw; (try dsimp only at hSw); go_simp; try with_reducible rfl)
                  simp only [Act.put, List.setIfInBounds_toArray, List.set_cons_zero, List.set_cons_succ]
                  refine wpAnyH_take (i := 2) (oi := { dst := some 122, op := Op.load 47 (Operand.tmp 121), type := 47, pos := "ref.go:188", after := #[{ on := 1, ground := Ground.data }], guard := none }) (v := ?_) rfl (by kernel_rfl) (by kernel_rfl) (by kernel_rfl) (fun _ _ _ h => h) (Or.inl ⟨by rfl, ?_⟩) (by assumption) ?_
                  rotate_left
                  · (intro w hSw; (try dsimp only at hSw); go_simp; try with_reducible rfl)
                  simp only [Act.put, List.setIfInBounds_toArray, List.set_cons_zero, List.set_cons_succ]
                  refine wpAnyH_take (i := 3) (oi := { dst := some 123, op := Op.move (Operand.tmp 8), type := 3, pos := "ref.go:188", after := #[], guard := none }) (v := ?_) rfl (by kernel_rfl) (by kernel_rfl) (by kernel_rfl) (fun _ _ _ h => h) (Or.inl ⟨by rfl, ?_⟩) (by assumption) ?_
                  rotate_left
                  · (intro w hSw; (try dsimp only at hSw); go_simp; try with_reducible rfl)
                  simp only [Act.put, List.setIfInBounds_toArray, List.set_cons_zero, List.set_cons_succ]
                  refine wpAnyH_take (i := 4) (oi := { dst := some 124, op := Op.indexAddr 47 (Operand.tmp 122) (Operand.tmp 123), type := 0, pos := "ref.go:188", after := #[{ on := 2, ground := Ground.data }, { on := 3, ground := Ground.data }], guard := none }) (v := ?_) rfl (by kernel_rfl) (by kernel_rfl) (by kernel_rfl) (fun _ _ _ h => h) (Or.inl ⟨by rfl, ?_⟩) (by assumption) ?_
                  rotate_left
                  · (intro w hSw; (try dsimp only at hSw); go_simp; try with_reducible rfl)
                  simp only [Act.put, List.setIfInBounds_toArray, List.set_cons_zero, List.set_cons_succ]
                  refine wpAnyH_take (i := 5) (oi := { dst := some 125, op := Op.fieldAddr 106 (Operand.tmp 124) 0, type := 0, pos := "ref.go:188", after := #[{ on := 4, ground := Ground.data }], guard := none }) (v := ?_) rfl (by kernel_rfl) (by kernel_rfl) (by kernel_rfl) (fun _ _ _ h => h) (Or.inl ⟨by rfl, ?_⟩) (by assumption) ?_
                  rotate_left
                  · (intro w hSw; (try dsimp only at hSw); go_simp; try with_reducible rfl)
                  simp only [Act.put, List.setIfInBounds_toArray, List.set_cons_zero, List.set_cons_succ]
                  refine wpAnyH_take (i := 6) (oi := { dst := some 126, op := Op.load 3 (Operand.tmp 125), type := 3, pos := "ref.go:188", after := #[{ on := 5, ground := Ground.data }], guard := none }) (v := ?_) rfl (by kernel_rfl) (by kernel_rfl) (by kernel_rfl) (fun _ _ _ h => h) (Or.inl ⟨by rfl, ?_⟩) (by assumption) ?_
                  rotate_left
                  · (intro w hSw; (try dsimp only at hSw); go_simp; try with_reducible rfl)
                  simp only [Act.put, List.setIfInBounds_toArray, List.set_cons_zero, List.set_cons_succ]
                  refine wpAnyH_take (i := 7) (oi := { dst := some 127, op := Op.fieldAddr 49 (Operand.tmp 1) 5, type := 0, pos := "ref.go:188", after := #[], guard := none }) (v := ?_) rfl (by kernel_rfl) (by kernel_rfl) (by kernel_rfl) (fun _ _ _ h => h) (Or.inl ⟨by rfl, ?_⟩) (by assumption) ?_
                  rotate_left
                  · (intro w hSw; (try dsimp only at hSw); go_simp; try with_reducible rfl)
                  simp only [Act.put, List.setIfInBounds_toArray, List.set_cons_zero, List.set_cons_succ]
                  refine wpAnyH_take (i := 8) (oi := { dst := some 128, op := Op.load 47 (Operand.tmp 127), type := 47, pos := "ref.go:188", after := #[{ on := 7, ground := Ground.data }], guard := none }) (v := ?_) rfl (by kernel_rfl) (by kernel_rfl) (by kernel_rfl) (fun _ _ _ h => h) (Or.inl ⟨by rfl, ?_⟩) (by assumption) ?_
                  rotate_left
                  · (intro w hSw; (try dsimp only at hSw); go_simp; try with_reducible rfl)
                  simp only [Act.put, List.setIfInBounds_toArray, List.set_cons_zero, List.set_cons_succ]
                  refine wpAnyH_take (i := 9) (oi := { dst := some 129, op := Op.move (Operand.tmp 8), type := 3, pos := "ref.go:188", after := #[], guard := none }) (v := ?_) rfl (by kernel_rfl) (by kernel_rfl) (by kernel_rfl) (fun _ _ _ h => h) (Or.inl ⟨by rfl, ?_⟩) (by assumption) ?_
                  rotate_left
                  · (intro w hSw; (try dsimp only at hSw); go_simp; try with_reducible rfl)
                  simp only [Act.put, List.setIfInBounds_toArray, List.set_cons_zero, List.set_cons_succ]
                  refine wpAnyH_take (i := 10) (oi := { dst := some 130, op := Op.indexAddr 47 (Operand.tmp 128) (Operand.tmp 129), type := 0, pos := "ref.go:188", after := #[{ on := 8, ground := Ground.data }, { on := 9, ground := Ground.data }], guard := none }) (v := ?_) rfl (by kernel_rfl) (by kernel_rfl) (by kernel_rfl) (fun _ _ _ h => h) (Or.inl ⟨by rfl, ?_⟩) (by assumption) ?_
                  rotate_left
                  · (intro w hSw; (try dsimp only at hSw); go_simp; try with_reducible rfl)
                  simp only [Act.put, List.setIfInBounds_toArray, List.set_cons_zero, List.set_cons_succ]
                  refine wpAnyH_take (i := 11) (oi := { dst := some 131, op := Op.fieldAddr 106 (Operand.tmp 130) 1, type := 0, pos := "ref.go:188", after := #[{ on := 10, ground := Ground.data }], guard := none }) (v := ?_) rfl (by kernel_rfl) (by kernel_rfl) (by kernel_rfl) (fun _ _ _ h => h) (Or.inl ⟨by rfl, ?_⟩) (by assumption) ?_
                  rotate_left
                  · (intro w hSw; (try dsimp only at hSw); go_simp; try with_reducible rfl)
                  simp only [Act.put, List.setIfInBounds_toArray, List.set_cons_zero, List.set_cons_succ]
                  refine wpAnyH_take (i := 12) (oi := { dst := some 132, op := Op.load 3 (Operand.tmp 131), type := 3, pos := "ref.go:188", after := #[{ on := 11, ground := Ground.data }], guard := none }) (v := ?_) rfl (by kernel_rfl) (by kernel_rfl) (by kernel_rfl) (fun _ _ _ h => h) (Or.inl ⟨by rfl, ?_⟩) (by assumption) ?_
                  rotate_left
                  · (intro w hSw; (try dsimp only at hSw); go_simp; try with_reducible rfl)
                  simp only [Act.put, List.setIfInBounds_toArray, List.set_cons_zero, List.set_cons_succ]
                  refine wpAnyH_take (i := 13) (oi := { dst := some 133, op := Op.fieldAddr 49 (Operand.tmp 1) 5, type := 0, pos := "ref.go:188", after := #[], guard := none }) (v := ?_) rfl (by kernel_rfl) (by kernel_rfl) (by kernel_rfl) (fun _ _ _ h => h) (Or.inl ⟨by rfl, ?_⟩) (by assumption) ?_
                  rotate_left
                  · (intro w hSw; (try dsimp only at hSw); go_simp; try with_reducible rfl)
                  simp only [Act.put, List.setIfInBounds_toArray, List.set_cons_zero, List.set_cons_succ]
                  refine wpAnyH_take (i := 14) (oi := { dst := some 134, op := Op.load 47 (Operand.tmp 133), type := 47, pos := "ref.go:188", after := #[{ on := 13, ground := Ground.data }], guard := none }) (v := ?_) rfl (by kernel_rfl) (by kernel_rfl) (by kernel_rfl) (fun _ _ _ h => h) (Or.inl ⟨by rfl, ?_⟩) (by assumption) ?_
                  rotate_left
                  · (intro w hSw; (try dsimp only at hSw); go_simp; try with_reducible rfl)
                  simp only [Act.put, List.setIfInBounds_toArray, List.set_cons_zero, List.set_cons_succ]
                  refine wpAnyH_take (i := 15) (oi := { dst := some 135, op := Op.move (Operand.tmp 8), type := 3, pos := "ref.go:188", after := #[], guard := none }) (v := ?_) rfl (by kernel_rfl) (by kernel_rfl) (by kernel_rfl) (fun _ _ _ h => h) (Or.inl ⟨by rfl, ?_⟩) (by assumption) ?_
                  rotate_left
                  · (intro w hSw; (try dsimp only at hSw); go_simp; try with_reducible rfl)
                  simp only [Act.put, List.setIfInBounds_toArray, List.set_cons_zero, List.set_cons_succ]
                  refine wpAnyH_take (i := 16) (oi := { dst := some 136, op := Op.indexAddr 47 (Operand.tmp 134) (Operand.tmp 135), type := 0, pos := "ref.go:188", after := #[{ on := 14, ground := Ground.data }, { on := 15, ground := Ground.data }], guard := none }) (v := ?_) rfl (by kernel_rfl) (by kernel_rfl) (by kernel_rfl) (fun _ _ _ h => h) (Or.inl ⟨by rfl, ?_⟩) (by assumption) ?_
                  rotate_left
                  · (intro w hSw; (try dsimp only at hSw); go_simp; try with_reducible rfl)
                  simp only [Act.put, List.setIfInBounds_toArray, List.set_cons_zero, List.set_cons_succ]
                  refine wpAnyH_take (i := 17) (oi := { dst := some 137, op := Op.fieldAddr 106 (Operand.tmp 136) 2, type := 0, pos := "ref.go:188", after := #[{ on := 16, ground := Ground.data }], guard := none }) (v := ?_) rfl (by kernel_rfl) (by kernel_rfl) (by kernel_rfl) (fun _ _ _ h => h) (Or.inl ⟨by rfl, ?_⟩) (by assumption) ?_
                  rotate_left
                  · (intro w hSw; (try dsimp only at hSw); go_simp; try with_reducible rfl)
                  simp only [Act.put, List.setIfInBounds_toArray, List.set_cons_zero, List.set_cons_succ]
                  refine wpAnyH_take (i := 18) (oi := { dst := some 138, op := Op.load 4 (Operand.tmp 137), type := 4, pos := "ref.go:188", after := #[{ on := 17, ground := Ground.data }], guard := none }) (v := ?_) rfl (by kernel_rfl) (by kernel_rfl) (by kernel_rfl) (fun _ _ _ h => h) (Or.inl ⟨by rfl, ?_⟩) (by assumption) ?_
                  rotate_left
                  · (intro w hSw; (try dsimp only at hSw); go_simp; try with_reducible rfl)
                  simp only [Act.put, List.setIfInBounds_toArray, List.set_cons_zero, List.set_cons_succ]
                  refine wpAnyH_ready (rs := [19]) (by kernel_rfl) (by simp) (AllReadyH.cons (o := { dst := some 139, op := Op.call { callee := Callee.value (Operand.func 35), args := #[Operand.tmp 138], argTypes := #[4] }, type := 3, pos := "ref.go:188", after := #[{ on := 18, ground := Ground.data }], guard := none }) rfl (fun K4020 hK4020 => ?_) AllReadyH.nil)
                  go_simp
                  refine (rbit_any x2 _).mono ?_
                  rintro _ _ ⟨rfl, rfl⟩
                  refine hK4020.out _ _ (hHeld) (fun hHeld4020 => ?_)
                  clear hK4020 K4020
                  try simp only [Act.put, List.setIfInBounds_toArray, List.set_cons_zero, List.set_cons_succ]
                  refine wpAnyH_ready (rs := [20]) (by kernel_rfl) (by simp) (AllReadyH.cons (o := { dst := some 140, op := Op.buildSlice 22 3 #[(0, Operand.tmp 126), (1, Operand.tmp 132), (2, Operand.tmp 139)], type := 22, pos := "ref.go:188", after := #[{ on := 6, ground := Ground.data }, { on := 12, ground := Ground.data }, { on := 19, ground := Ground.data }], guard := none }) rfl (fun K4021 hK4021 => ?_) AllReadyH.nil)
                  go_simp
                  have hk1 : Below wrL7.heap.size wrL7 (wrL7.drew.alloc (.cells #[.int .i64 x0, .int .i64 x1, .int .i64 (bitI x2)] 3)) := (Below.refl _ _).drew.alloc (Nat.le_refl _) _
                  have hb1 : Below w0.heap.size w0 (wrL7.drew.alloc (.cells #[.int .i64 x0, .int .i64 x1, .int .i64 (bitI x2)] 3)) := hbel.trans (hk1.mono hbel.size)
                  have HO1 := hid (HO.out.below hk1)
                  have HS1 := hid (show Sees (wrL7.drew.alloc (.cells #[.int .i64 x0, .int .i64 x1, .int .i64 (bitI x2)] 3)) .i64 (.slice (some ⟨wrL7.heap.size, 0, none⟩) 3 3) [x0, x1, bitI x2] from Sees.box (ys := [x0, x1, bitI x2]) (BoxAt.new wrL7.drew 3 #[.int .i64 x0, .int .i64 x1, .int .i64 (bitI x2)]) (by simp))
                  refine hK4021.out _ _ (MK.out _ hb1) (fun hHeld4021 => ?_)
                  clear hK4021 K4021
                  try simp only [Act.put, List.setIfInBounds_toArray, List.set_cons_zero, List.set_cons_succ]
                  refine wpAnyH_ready (rs := [21]) (by kernel_rfl) (by simp) (AllReadyH.cons (o := { dst := some 141, op := Op.call { callee := Callee.builtin Builtin.append, args := #[Operand.tmp 120, Operand.tmp 140], argTypes := #[22, 22] }, type := 22, pos := "ref.go:188", after := #[{ on := 0, ground := Ground.data }, { on := 20, ground := Ground.data }, { on := 19, ground := Ground.chain }], guard := none }) rfl (fun K4022 hK4022 => ?_) AllReadyH.nil)
                  refine step_app_ints rfl (.tmp 120) (.tmp 140) rfl w0.heap.size _ M rfl HO1.out _ [x0, x1, bitI x2] rfl HS1.out HMB.out hb1.size ?_
                  intro v2 w2 ho2 hg2 hb2
                  have hbw2 := hb1.trans hb2
                  have HO2 := hid ho2
                  clear ho2 hg2 hb2 hb1 HO1 HS1 hk1
                  refine hK4022.out _ _ (MK.out _ hbw2) (fun hHeld4022 => ?_)
                  clear hK4022 K4022
                  try simp only [Act.put, List.setIfInBounds_toArray, List.set_cons_zero, List.set_cons_succ]
                  refine wpAnyH_take (i := 22) (oi := { dst := some 3, op := Op.assign (Operand.tmp 141), type := 22, pos := "ref.go:188", after := #[{ on := 21, ground := Ground.data }, { on := 21, ground := Ground.chain }, { on := 0, ground := Ground.phase }, { on := 1, ground := Ground.phase }, { on := 2, ground := Ground.phase }, { on := 3, ground := Ground.phase }, { on := 4, ground := Ground.phase }, { on := 5, ground := Ground.phase }, { on := 6, ground := Ground.phase }, { on := 7, ground := Ground.phase }, { on := 8, ground := Ground.phase }, { on := 9, ground := Ground.phase }, { on := 10, ground := Ground.phase }, { on := 11, ground := Ground.phase }, { on := 12, ground := Ground.phase }, { on := 13, ground := Ground.phase }, { on := 14, ground := Ground.phase }, { on := 15, ground := Ground.phase }, { on := 16, ground := Ground.phase }, { on := 17, ground := Ground.phase }, { on := 18, ground := Ground.phase }, { on := 19, ground := Ground.phase }, { on := 20, ground := Ground.phase }, { on := 21, ground := Ground.phase }], guard := none }) (v := ?_) rfl (by kernel_rfl) (by kernel_rfl) (by kernel_rfl) (fun _ _ _ h => h) (Or.inl ⟨by rfl, ?_⟩) (by assumption) ?_
                  rotate_left
                  · (intro w hSw; (try dsimp only at hSw); go_simp; try with_reducible rfl)
                  simp only [Act.put, List.setIfInBounds_toArray, List.set_cons_zero, List.set_cons_succ]
                  refine wpAnyH_done (by kernel_rfl) ?_ _
                  clear hHeld hHeld4020 hHeld4021 hHeld4022
                  have HNM := hid (show M ++ [x0, x1, bitI x2] = L7 ++ (p.sc.take (i + 1)).flatMap flSc by rw [HM.out, HS.out, List.append_assoc]; rfl)
                  have HNL := hid (show (M ++ [x0, x1, bitI x2]).length = L7.length + 3 * (i + 1) by rw [List.length_append, hMl]; simp only [List.length_cons, List.length_nil]; omega)
                  clear MK HM HS HO
                  go_wp2
                  go_roundw
                  case rel => exact ⟨i + 1, _, by omega, by go_num, HO2.out, HNM.out, HNL.out, hbw2⟩
                  case measure => simp [intOf]; omega
                · have hMe : M = L7 ++ p.sc.flatMap flSc := by rw [HM.out, List.take_of_length_le (by rw [← HN5.out]; omega)]
                  have HEL8 := hid hMe
                  have hLbL8 : M.length ≤ L7.length + 3 * n5 := by rw [hMl]; exact Nat.add_le_add_left (Nat.mul_le_mul_left _ hi) _
                  have HOL8 := HO
                  have HBL8 := hid hbel
                  clear HM HO hMe hMl
                  rename List Int => L8
                  have e6 := ((HX.out.belowAll hbel).cell 6).trans rfl
                  have HLx := hid (HOL8.out.below ((Below.refl _ _).alloc (Nat.le_refl _) (.cells #[.int .i64 p.ev] 3)))
                  have HSx := hid (show Sees (wrL7.alloc (.cells #[.int .i64 p.ev] 3)) .i64 (.slice (some ⟨wrL7.heap.size, 0, none⟩) 1 1) [p.ev] from Sees.box (ys := [p.ev]) (BoxAt.new wrL7 3 #[.int .i64 p.ev]) (by simp))
                  have hbx := hbel.alloc hbel.size (.cells #[.int .i64 p.ev] 3)
                  have HMx := hid (show L8.length + [p.ev].length ≤ 1000000 by simp only [List.length_cons, List.length_nil]; omega)
                  go_wp2_with (at_builtin; refine app_ints rfl _ _ rfl w0.heap.size _ L8 rfl HLx.out _ [p.ev] rfl HSx.out HMx.out hbx.size ?_)
                  intro vL9 wL9 ho hg hb
                  obtain ⟨L9, hN⟩ : ∃ N, N = L8 ++ [p.ev] := ⟨_, rfl⟩
                  rw [← hN] at ho
                  have HEL9 := hid hN
                  have hLbL9 : L9.length ≤ L8.length + 1 := by rw [hN, List.length_append]; simp
                  have HOL9 := hid ho
                  have hbL9 := hbx.trans hb
                  have HBL9 := hid hbL9
                  clear ho hg hb hbx HLx HSx HMx hN HOL8 e6 hlt hi
                  have e7 := ((HX.out.belowAll hbL9).cell 7).trans rfl
                  go_wp2_with fail
                  refine (rcounted_any _ p.sa _ ((HSS.out.below (HB.out.trans (hbL9.mono HB.out.size))).sa) (by have := HQ.out.1; omega)).mono ?_
                  rintro e wq ⟨u, rfl, hou, hbu⟩
                  have HLx := hid (HOL9.out.below hbu)
                  have HSx := hid hou.sees
                  have hbx := hbL9.trans (hbu.mono hbL9.size)
                  have hqx : p.sa.length ≤ 1000 := HQ.out.1
                  have HMx := hid (show L9.length + (cntF one1 p.sa).length ≤ 1000000 by rw [cnt1_len]; omega)
                  have hcl : (cntF one1 p.sa).length ≤ 10001 := by rw [cnt1_len]; omega
                  clear hqx
                  go_wp2_with (at_builtin; refine app_ints rfl _ _ rfl w0.heap.size _ L9 rfl HLx.out _ (cntF one1 p.sa) rfl HSx.out HMx.out hbx.size ?_)
                  intro vL10 wL10 ho hg hb
                  obtain ⟨L10, hN⟩ : ∃ N, N = L9 ++ cntF one1 p.sa := ⟨_, rfl⟩
                  rw [← hN] at ho
                  have HEL10 := hid hN
                  have hLbL10 : L10.length ≤ L9.length + 10001 := by rw [hN, List.length_append]; omega
                  have HOL10 := hid ho
                  have hbL10 := hbx.trans hb
                  have HBL10 := hid hbL10
                  clear ho hg hb hbx hou hbu hcl HLx HSx HMx hN HOL9 e7
                  have e8 := ((HX.out.belowAll hbL10).cell 8).trans rfl
                  go_wp2_with fail
                  refine (rcounted_any _ p.qu _ ((HSS.out.below (HB.out.trans (hbL10.mono HB.out.size))).qu) (by have := HQ.out.2.1; omega)).mono ?_
                  rintro e wq ⟨u, rfl, hou, hbu⟩
                  have HLx := hid (HOL10.out.below hbu)
                  have HSx := hid hou.sees
                  have hbx := hbL10.trans (hbu.mono hbL10.size)
                  have hqx : p.qu.length ≤ 1000 := HQ.out.2.1
                  have HMx := hid (show L10.length + (cntF one1 p.qu).length ≤ 1000000 by rw [cnt1_len]; omega)
                  have hcl : (cntF one1 p.qu).length ≤ 10001 := by rw [cnt1_len]; omega
                  clear hqx
                  go_wp2_with (at_builtin; refine app_ints rfl _ _ rfl w0.heap.size _ L10 rfl HLx.out _ (cntF one1 p.qu) rfl HSx.out HMx.out hbx.size ?_)
                  intro vL11 wL11 ho hg hb
                  obtain ⟨L11, hN⟩ : ∃ N, N = L10 ++ cntF one1 p.qu := ⟨_, rfl⟩
                  rw [← hN] at ho
                  have HEL11 := hid hN
                  have hLbL11 : L11.length ≤ L10.length + 10001 := by rw [hN, List.length_append]; omega
                  have HOL11 := hid ho
                  have hbL11 := hbx.trans hb
                  have HBL11 := hid hbL11
                  clear ho hg hb hbx hou hbu hcl HLx HSx HMx hN HOL10 e8
                  have e9 := ((HX.out.belowAll hbL11).cell 9).trans rfl
                  have HLx := hid (HOL11.out.below ((Below.refl _ _).alloc (Nat.le_refl _) (.cells #[.int .i64 p.la] 3)))
                  have HSx := hid (show Sees (wL11.alloc (.cells #[.int .i64 p.la] 3)) .i64 (.slice (some ⟨wL11.heap.size, 0, none⟩) 1 1) [p.la] from Sees.box (ys := [p.la]) (BoxAt.new wL11 3 #[.int .i64 p.la]) (by simp))
                  have hbx := hbL11.alloc hbL11.size (.cells #[.int .i64 p.la] 3)
                  have HMx := hid (show L11.length + [p.la].length ≤ 1000000 by simp only [List.length_cons, List.length_nil]; omega)
                  go_wp2_with (at_builtin; refine app_ints rfl _ _ rfl w0.heap.size _ L11 rfl HLx.out _ [p.la] rfl HSx.out HMx.out hbx.size ?_)
                  intro vL12 wL12 ho hg hb
                  obtain ⟨L12, hN⟩ : ∃ N, N = L11 ++ [p.la] := ⟨_, rfl⟩
                  rw [← hN] at ho
                  have HEL12 := hid hN
                  have hLbL12 : L12.length ≤ L11.length + 1 := by rw [hN, List.length_append]; simp
                  have HOL12 := hid ho
                  have hbL12 := hbx.trans hb
                  have HBL12 := hid hbL12
                  clear ho hg hb hbx HLx HSx HMx hN HOL11 e9 
                  have e10 := ((HX.out.belowAll hbL12).cell 10).trans rfl
                  go_wp2_with fail
                  refine (rcounted_any _ p.tb _ ((HSS.out.below (HB.out.trans (hbL12.mono HB.out.size))).tb) (by have := HQ.out.2.2; omega)).mono ?_
                  rintro e wq ⟨u, rfl, hou, hbu⟩
                  have HLx := hid (HOL12.out.below hbu)
                  have HSx := hid hou.sees
                  have hbx := hbL12.trans (hbu.mono hbL12.size)
                  have hqx : p.tb.length ≤ 1000 := HQ.out.2.2
                  have HMx := hid (show L12.length + (cntF one1 p.tb).length ≤ 1000000 by rw [cnt1_len]; omega)
                  have hcl : (cntF one1 p.tb).length ≤ 10001 := by rw [cnt1_len]; omega
                  clear hqx
                  go_wp2_with (at_builtin; refine app_ints rfl _ _ rfl w0.heap.size _ L12 rfl HLx.out _ (cntF one1 p.tb) rfl HSx.out HMx.out hbx.size ?_)
                  intro vL13 wL13 ho hg hb
                  obtain ⟨L13, hN⟩ : ∃ N, N = L12 ++ cntF one1 p.tb := ⟨_, rfl⟩
                  rw [← hN] at ho
                  have HEL13 := hid hN
                  have hLbL13 : L13.length ≤ L12.length + 10001 := by rw [hN, List.length_append]; omega
                  have HOL13 := hid ho
                  have hbL13 := hbx.trans hb
                  have HBL13 := hid hbL13
                  clear ho hg hb hbx hou hbu hcl HLx HSx HMx hN HOL12 e10
                  have HF := hid (show L13 = flPt p by rw [HEL13.out, HEL12.out, HEL11.out, HEL10.out, HEL9.out, HEL8.out, HEL7.out, HEL6.out, HEL5.out, HEL4.out, HEL3.out, HEL2.out, HEL1.out, HN1.out, HN2.out, HN4.out, HN5.out]; simp only [flPt, cntF, List.append_assoc, List.cons_append, List.nil_append])
                  go_wp2
                  go_ret
                  exact ⟨_, rfl, by have h := HOL13.out; rw [HF.out] at h; exact h.mono (by omega), HB.out.trans (hbL13.mono HB.out.size)⟩

end Go.Proofs.Ytfdoejdnhogepaa
