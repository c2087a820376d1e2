/-
  What cpu.fetch, slices.Clone and the deferred function of cpu.Step do.
-/
import Derived.Test.YtedldckijblnhaaDoorCAny
namespace Go.Proofs.YtedldckijblnhaaDoor
open Go.RowKit
set_option linter.unusedVariables false

set_option maxRecDepth 100000 in
set_option maxHeartbeats 400000 in
theorem clone_sees (vm : Value) (m : List Int) (w : World) (hm : Sees w .i64 vm m) (hlen : m.length ≤ 100000) :
    Calls Tryd.prog 19 #[vm] w fun e w' => ∃ a l c, e = .returned (.slice a l c) ∧ Sees w' .i64 (.slice a l c) m ∧ Below w.heap.size w w' := by
  by_cases h0 : 0 < m.length
  · refine (clone_any vm m w hm h0 hlen).mono ?_
    rintro e w' ⟨u, rfl, ho, hb⟩
    obtain ⟨ua, ul, uc, rfl⟩ := owns_slice ho
    exact ⟨ua, ul, uc, rfl, Sees.of_owns ho, hb⟩
  · obtain rfl : m = [] := List.eq_nil_of_length_eq_zero (by omega)
    have hnil := fun (w : World) (a : Option Addr) (l c : Nat) => Lib.run_eql_slice_nil (P := Tryd.prog) w 26 3 a l c 0 0 Tryd.underlying26
    rcases hm with ⟨rfl, _⟩ | ⟨x, cap, rfl, h1, h2, hc⟩
    · go_enter Tryd.func19, Tryd.ntmps19
      go_wp2
      go_ret
      exact ⟨_, _, _, rfl, Sees.nil _ _, Below.refl _ _⟩
    · clear hc
      obtain ⟨i0, hi, hz0, hz1, hz2⟩ := info_parts Tryd.infoI
      have hown : (w.alloc (.cells #[] 3)).ownsRow w.heap.size 3 1 (.slice (some ⟨w.heap.size, 0, none⟩) 0 0) 0 [] := World.ownsRow_made w #[] 0 (Nat.le_refl _) (by decide) rfl
      have hsee : Sees (w.alloc (.cells #[] 3)) .i64 (.slice (some x) 0 cap) [] := .inr ⟨x, cap, rfl, by simp, h2, by simp⟩
      simp only [List.length_nil]
      go_enter Tryd.func19, Tryd.ntmps19
      go_wp2_with (at_builtin; refine wpList_append_sees rfl _ _ 26 rfl w.heap.size 3 i0 (.int .i64 0) 8 Tryd.underlying26 hi hz0 hz1 hz2 rfl .i64 _ _ _ rfl hown _ [] rfl hsee ?c1 ?c2 ?c3 ?_)
      case c1 => simp
      case c2 => simp
      case c3 => simp
      intro v' w2 hown2 hgrow
      have hbel : Below w.heap.size w w2 := ((Below.refl _ _).alloc (Nat.le_refl _) _).grown hgrow (by simp) (fun k hk => (hown.lt k hk).1)
      have HO := hid (show w2.ownsRow w.heap.size 3 1 v' 0 (([] : List Int).map (Value.int .i64)) by simpa using hown2)
      clear hown2 hown hgrow hsee
      go_wp2
      go_ret
      obtain ⟨ua, ul, uc, rfl⟩ := owns_slice HO.out
      exact ⟨ua, ul, uc, rfl, Sees.of_owns HO.out, hbel⟩

theorem loadIn (w : World) (g : Nat) (x y z : Int) (h0 : w.cell? ⟨g, 0, none⟩ = some (.int .i64 x)) (h1 : w.cell? ⟨g, 1, none⟩ = some (.int .i64 y)) (h2 : w.cell? ⟨g, 2, none⟩ = some (.int .i64 z)) :
    (loadVar 44 ⟨g, 0, none⟩).run Tryd.prog w = .ok (.agg #[.int .i64 x, .int .i64 y, .int .i64 z]) w :=
  run_loadVar_mid w g 0 44 [.int .i64 x, .int .i64 y, .int .i64 z] _ (fun j v hv => by
    rw [Nat.zero_add]
    match j, hv with
    | 0, hv => simp at hv; subst hv; exact h0
    | 1, hv => simp at hv; subst hv; exact h1
    | 2, hv => simp at hv; subst hv; exact h2
    | j + 3, hv => simp at hv) Tryd.underlying44 rfl (by kernel_rfl)

theorem loadSet3 (w : World) (g : Nat) (a b c : Value) (x y z : Int) (h0 : w.cell? ⟨g, 0, none⟩ = some a) (h1 : w.cell? ⟨g, 1, none⟩ = some b) (h2 : w.cell? ⟨g, 2, none⟩ = some c) :
    (loadVar 44 ⟨g, 0, none⟩).run Tryd.prog (((w.setCell ⟨g, 0, none⟩ (.int .i64 x)).setCell ⟨g, 1, none⟩ (.int .i64 y)).setCell ⟨g, 2, none⟩ (.int .i64 z)) =
      .ok (.agg #[.int .i64 x, .int .i64 y, .int .i64 z]) (((w.setCell ⟨g, 0, none⟩ (.int .i64 x)).setCell ⟨g, 1, none⟩ (.int .i64 y)).setCell ⟨g, 2, none⟩ (.int .i64 z)) := by
  refine loadIn _ g x y z ?_ ?_ ?_
  · rw [World.cell?_setCell_other _ _ _ _ (cadr_ne (by omega)), World.cell?_setCell_other _ _ _ _ (cadr_ne (by omega))]
    exact World.cell?_setCell_same _ _ _ h0
  · rw [World.cell?_setCell_other _ _ _ _ (cadr_ne (by omega))]
    refine World.cell?_setCell_same _ _ _ (u := b) ?_
    rw [World.cell?_setCell_other _ _ _ _ (cadr_ne (by omega))]; exact h1
  · refine World.cell?_setCell_same _ _ _ (u := c) ?_
    rw [World.cell?_setCell_other _ _ _ _ (cadr_ne (by omega)), World.cell?_setCell_other _ _ _ _ (cadr_ne (by omega))]; exact h2

set_option maxRecDepth 100000 in
set_option maxHeartbeats 800000 in
theorem fetch_ok (vc : Value) (code : List In) (k : Nat) (w : World) (hL : Laid w) (hc : SeesI w vc code) (hk : k < code.length) (hmay : mayI (code.getD k In.zero) = true) :
    Calls Tryd.prog 21 #[vc, .int .i64 k] w fun e w' => e = .returned (code.getD k In.zero).val ∧ Below w.heap.size w w' := by
  obtain ⟨ac, cc, rfl, hc1, hc2, hcc⟩ := hc.form
  unfold maxLen at hc2
  obtain ⟨b, off, rfl, hbw, hcell⟩ := hcc (by omega)
  obtain ⟨c0, c1, c2⟩ := hcell k hk
  clear hcc hcell hc
  have HL := hid (hL.below (alloc_belowI w (.cells #[.int .i64 0, .int .i64 0, .int .i64 0] 44)))
  clear hL
  generalize code.getD k In.zero = i at *
  obtain ⟨o, A, B⟩ := i
  simp only at c0 c1 c2
  have HMAY := hid hmay
  have HB0 := hid (alloc_belowI w (.cells #[.int .i64 0, .int .i64 0, .int .i64 0] 44))
  clear hmay
  generalize code.length = n at *
  go_enter Tryd.func21, Tryd.ntmps21
  go_wp2_with fail
  refine (imay_any ⟨o, A, B⟩ _ HL.out).mono ?_
  rintro e w1 ⟨rfl, hb1⟩
  rw [HMAY.out]
  have hbb := HB0.out.trans (hb1.mono HB0.out.size)
  have r0 : w1.cell? ⟨w.heap.size, 0, none⟩ = some (.int .i64 0) := (hb1.cell (by simp)).trans (by simp)
  have r1 : w1.cell? ⟨w.heap.size, 1, none⟩ = some (.int .i64 0) := (hb1.cell (by simp)).trans (by simp)
  have r2 : w1.cell? ⟨w.heap.size, 2, none⟩ = some (.int .i64 0) := (hb1.cell (by simp)).trans (by simp)
  have z0 : w1.frozen? ⟨w.heap.size, 0, none⟩ = false := (hb1.frozen (by simp)).trans (by simp)
  have z1 : w1.frozen? ⟨w.heap.size, 1, none⟩ = false := (hb1.frozen (by simp)).trans (by simp)
  have z2 : w1.frozen? ⟨w.heap.size, 2, none⟩ = false := (hb1.frozen (by simp)).trans (by simp)
  replace c0 := (hbb.cell (by exact hbw)).trans c0
  replace c1 := (hbb.cell (by exact hbw)).trans c1
  replace c2 := (hbb.cell (by exact hbw)).trans c2
  have HBB := hid hbb
  clear hb1 hbb
  go_wp2
  try simp only [Exit.inBlock, Exit.then]
  refine bodyPost_ret (results_cell1 rfl _ _ _ ⟨w.heap.size, 0, none⟩ _ rfl (loadSet3 _ _ _ _ _ _ _ _ r0 r1 r2)) rfl ?_
  exact ⟨rfl, by repeat (first | exact HBB.out | refine Below.setCell ?_ (by simp) _)⟩

set_option maxRecDepth 100000 in
set_option maxHeartbeats 800000 in
theorem fetch_bad (vc : Value) (code : List In) (p : Int) (w : World) (hL : Laid w) (hc : SeesI w vc code) (hbad : ¬ (0 ≤ p ∧ p < code.length ∧ mayI (code.getD p.toNat In.zero) = true)) :
    Calls Tryd.prog 21 #[vc, .int .i64 p] w fun e w' => e = faultE 4 ∧ Below w.heap.size w w' := by
  obtain ⟨ac, cc, rfl, hc1, hc2, hcc⟩ := hc.form
  unfold maxLen at hc2
  have HB0 := hid (alloc_belowI w (.cells #[.int .i64 0, .int .i64 0, .int .i64 0] 44))
  by_cases h0 : p < 0
  · have HBAD := hid hbad
    clear hbad hcc hc hL
    go_enter Tryd.func21, Tryd.ntmps21
    go_wp2
    exact ⟨rfl, rfl, HB0.out⟩
  · by_cases h1 : (code.length : Int) ≤ p
    · have HBAD := hid hbad
      clear hbad hcc hc hL
      go_enter Tryd.func21, Tryd.ntmps21
      go_wp2
      exact ⟨rfl, rfl, HB0.out⟩
    · obtain ⟨k, rfl⟩ := Int.eq_ofNat_of_zero_le (show 0 ≤ p by omega)
      have hk : k < code.length := by omega
      have hmay : mayI (code.getD k In.zero) = false := by
        cases hh : mayI (code.getD k In.zero) with
        | false => rfl
        | true => exact absurd ⟨by omega, by omega, by simpa using hh⟩ hbad
      obtain ⟨b, off, rfl, hbw, hcell⟩ := hcc (by omega)
      obtain ⟨c0, c1, c2⟩ := hcell k hk
      clear hcc hcell hc hbad
      have HL := hid (hL.below (alloc_belowI w (.cells #[.int .i64 0, .int .i64 0, .int .i64 0] 44)))
      clear hL
      generalize code.getD k In.zero = i at *
      obtain ⟨o, A, B⟩ := i
      simp only at c0 c1 c2
      have HMAY := hid hmay
      clear hmay
      generalize code.length = n at *
      go_enter Tryd.func21, Tryd.ntmps21
      go_wp2_with fail
      refine (imay_any ⟨o, A, B⟩ _ HL.out).mono ?_
      rintro e w1 ⟨rfl, hb1⟩
      rw [HMAY.out]
      have HBB := hid (HB0.out.trans (hb1.mono HB0.out.size))
      clear hb1
      go_wp2
      exact ⟨rfl, rfl, HBB.out⟩

theorem Tryd.ta_fault (f : Int) (w : World) : (Instr.typeAssert (.iface 53 (.int .i64 f)) 20 53 true).run Tryd.prog w = .ok (.tuple #[.int .i64 f, .bool true]) w := by
  simp [Instr.typeAssert, run_underlying Tryd.underlying53]
theorem Tryd.ta_nofault (w : World) : (Instr.typeAssert .nilIface 20 53 true).run Tryd.prog w = .ok (.tuple #[.int .i64 0, .bool false]) w := by
  have h : (zeroValue 53).run Tryd.prog w = .ok (.int .i64 0) w := by kernel_rfl
  simp [Instr.typeAssert, run_underlying Tryd.underlying53, h]

theorem step_catch (g : Nat) (f : Int) (x : Value) (older : List PanicEntry) (w : World) (hc : w.cell? ⟨g, 0, none⟩ = some x) (hz : w.frozen? ⟨g, 0, none⟩ = false) :
    CallsD Tryd.prog 20 #[.pointer (some ⟨g, 0, none⟩)] (.panicking ({ v := .iface 53 (.int .i64 f), recovered := false } :: older)) w fun e u' w' =>
      e = .returned (.tuple #[]) ∧ u' = .panicking ({ v := .iface 53 (.int .i64 f), recovered := true } :: older) ∧ w' = w.setCell ⟨g, 0, none⟩ (.int .i64 f) := by
  refine callsD_of_wpS Tryd.func20 rfl fun c₀ cs hu => ?_
  apply wpS_seq
  apply wpS_region
  simp [wpOpsS, go_sem, recoverD, hu, Tryd.ntmps20, Exit.thenS, Tryd.ta_fault]
  apply wpS_seq
  apply wpS_region
  simp [wpOpsS, go_sem, Exit.thenS, Array.replicate]
  refine wpS_cond (t := true) (by simp [Act.eval]) ?_
  simp only [if_true]
  apply wpS_region
  simp [wpOpsS, go_sem, hc, hz, bodyPostS, results, Tryd.results20]

theorem step_idle (g : Nat) (w : World) :
    CallsD Tryd.prog 20 #[.pointer (some ⟨g, 0, none⟩)] .returning w fun e u' w' => e = .returned (.tuple #[]) ∧ u' = .returning ∧ w' = w := by
  refine callsD_of_wpS Tryd.func20 rfl fun c₀ cs hu => ?_
  apply wpS_seq
  apply wpS_region
  simp [wpOpsS, go_sem, recoverD, hu, Tryd.ntmps20, Exit.thenS, Tryd.ta_nofault]
  apply wpS_seq
  apply wpS_region
  simp [wpOpsS, go_sem, Exit.thenS, Array.replicate]
  refine wpS_cond (t := false) (by simp [Act.eval]) ?_
  simp only [Bool.false_eq_true, if_false]
  refine wpS_of_wp (wp_skip ?_)
  cases c₀
  simp_all [bodyPostS, results, Tryd.results20]
end Go.Proofs.YtedldckijblnhaaDoor
