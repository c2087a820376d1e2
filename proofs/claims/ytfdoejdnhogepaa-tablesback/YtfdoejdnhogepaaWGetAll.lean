/-
  What word.GetAll and the document's own GetAll return, whatever bytes they are given (at most 1000000), and that nothing that was there is written.
-/
import Derived.Test.YtfdoejdnhogepaaWGet
namespace Go.Proofs.Ytfdoejdnhogepaa
open Go.RowKit
set_option linter.unusedVariables false

/-- How long a slice is. -/
def lenOf : Value → Nat | .slice _ n _ => n | _ => 0

set_option maxRecDepth 100000 in
set_option maxHeartbeats 400000 in
theorem getAll_any (v : Value) (l : List Int) (w : World) (hv : Sees w .u8 v l) (hby : ∀ c ∈ l, 0 ≤ c ∧ c ≤ 255) (hl : l.length ≤ 1000000) :
    Calls Try.prog 53 #[v] w fun e w' => ∃ u, e = .returned (.tuple #[u, .int .i64 (ga l).2]) ∧
      w'.ownsRow w.heap.size 3 1 u (ga l).1.length ((ga l).1.map (Value.int .i64)) ∧ Below w.heap.size w w' := by
  obtain ⟨i0, hi, hz0, hz1, hz2⟩ := info_parts Try.infoInt
  obtain ⟨g, hg⟩ : ∃ g, ga l = g := ⟨_, rfl⟩
  rw [hg]
  have HGL := hid hg
  have HY := hid hby
  clear hg hby
  have HV := hid hv
  clear hv
  go_enter Try.func53, Try.ntmps53
  go_wp2
  go_loopw [0, 4] (fun v s wr => ∃ (f : Nat) (acc r : List Int), r.length ≤ f ∧ acc.length + r.length ≤ l.length ∧ Sees w .u8 v r ∧ (∀ c ∈ r, 0 ≤ c ∧ c ≤ 255) ∧ gaF f acc r = g ∧
      wr.ownsRow w.heap.size 3 1 s acc.length (acc.map (Value.int .i64)) ∧ Below w.heap.size w wr) (fun v _ _ => lenOf v)
  case atStart => exact ⟨l.length, [], l, by omega, by simp, HV.out, HY.out, HGL.out, World.ownsRow_nil _ _ _ _, Below.refl _ _⟩
  case round =>
    obtain ⟨f, acc, r, hrf, hlen, hsee, hyr, hga, hown, hbel⟩ := hrel
    have HGA := hid hga
    have HYR := hid hyr
    clear hga hyr
    obtain ⟨a, cap, rfl, hc1, hc2, hcells⟩ := hsee.form
    by_cases hr : 0 < r.length
    · obtain ⟨b, off, rfl, hbw, hcell⟩ := hcells hr
      have HC := hid hcell
      have hc2' := hc2
      unfold maxLen at hc2'
      have hsz := hbel.size
      clear hcells hcell
      go_wp2_with fail
      refine (get_any _ _ _ (hsee.below hbel) HYR.out).mono ?_
      rintro e w1 ⟨rfl, hb1⟩
      obtain ⟨f, rfl⟩ : ∃ f', f = f' + 1 := ⟨f - 1, by omega⟩
      by_cases he : (get r).2.2 = 0
      · obtain ⟨j, hj, hj1, hj2⟩ := get_ok r he
        have hst := gaF_step f acc r hr hrf j he hj
        rw [HGA.out] at hst
        have HST := hid hst
        rw [hj, he]
        have hown1 := owns_below hown hb1
        have hbel1 := hbel.trans (hb1.mono hsz)
        have hz1' := hb1.size
        clear hst hsee hj he hb1
        generalize (get r).1 = x at *
        go_wp2_with (at_builtin; refine wpList_append_own _ rfl _ _ 22 rfl w.heap.size 3 i0 (.int .i64 0) 1 8 Try.underlying22 hi hz0 hz1 hz2 rfl (by decide) _ _ _ rfl (hown1.alloc _) ⟨w1.heap.size, 0, none⟩ 1 1 [.int .i64 x] rfl rfl (one_new _ _ _) (one_cell _ _) ?c3 ?c4 ?c5 ?_)
        case c3 => unfold maxLen; omega
        case c4 => omega
        case c5 => simp; omega
        intro v' w2 hown2 hgrow _
        have hown3 : w2.ownsRow w.heap.size 3 1 v' (acc ++ [x]).length ((acc ++ [x]).map (Value.int .i64)) := by simpa using hown2
        have hbel2 : Below w.heap.size w w2 := (hbel1.alloc (by omega) _).grown hgrow (by simp; omega) (fun k hk => (hown1.lt k hk).1)
        have HO := hid hown3
        have HSD := hid (Sees.dropped j hj2 hc1 hc2 HC.out)
        have HB := hid hbel2
        clear hown2 hown3 hgrow hown1 hbel1 hown hbel hbel2
        go_wp2
        all_goals
          go_roundw
          case rel => exact ⟨f, acc ++ [x], r.drop j, by simp; omega, by simp; omega, by first | exact HSD.out | (have := HSD.out; simpa [*] using this), fun c hc => HYR.out c (List.mem_of_mem_drop hc), HST.out.symm, HO.out, HB.out⟩
          case measure => simp [lenOf]; omega
      · have hst := gaF_err f acc r hr he
        rw [HGA.out] at hst
        have HST := hid hst
        have hne : ((get r).2.2 != 0) = true := by simpa using he
        have hb2 := hbel.trans (hb1.mono hsz)
        clear hst
        generalize (get r).2.2 = y at *
        go_wp2
        go_ret2
        exact ⟨_, by rw [HST.out]; rfl, by rw [HST.out]; exact World.ownsRow_nil _ _ _ _, hb2⟩
    · have hr0 : r = [] := List.eq_nil_of_length_eq_zero (by omega)
      subst hr0
      have hst := HGA.out
      rw [gaF_nil] at hst
      have HST := hid hst
      clear hst
      go_wp2
      go_ret2
      exact ⟨_, by rw [← HST.out]; rfl, by rw [← HST.out]; exact hown, hbel⟩

set_option maxRecDepth 100000 in
set_option maxHeartbeats 400000 in
theorem rgetAll_any (v : Value) (l : List Int) (w : World) (hv : Sees w .u8 v l) (hby : ∀ c ∈ l, 0 ≤ c ∧ c ≤ 255) (hl : l.length ≤ 1000000) :
    Calls Try.prog 23 #[v] w fun e w' => ∃ u, e = .returned (.tuple #[u, .int .i64 (ga l).2]) ∧
      w'.ownsRow w.heap.size 3 1 u (ga l).1.length ((ga l).1.map (Value.int .i64)) ∧ Below w.heap.size w w' := by
  obtain ⟨i0, hi, hz0, hz1, hz2⟩ := info_parts Try.infoInt
  obtain ⟨g, hg⟩ : ∃ g, ga l = g := ⟨_, rfl⟩
  rw [hg]
  have HGL := hid hg
  have HY := hid hby
  clear hg hby
  have HV := hid hv
  clear hv
  go_enter Try.func23, Try.ntmps23
  go_wp2
  go_loopw [0, 4] (fun v s wr => ∃ (f : Nat) (acc r : List Int), r.length ≤ f ∧ acc.length + r.length ≤ l.length ∧ Sees w .u8 v r ∧ (∀ c ∈ r, 0 ≤ c ∧ c ≤ 255) ∧ gaF f acc r = g ∧
      wr.ownsRow w.heap.size 3 1 s acc.length (acc.map (Value.int .i64)) ∧ Below w.heap.size w wr) (fun v _ _ => lenOf v)
  case atStart => exact ⟨l.length, [], l, by omega, by simp, HV.out, HY.out, HGL.out, World.ownsRow_nil _ _ _ _, Below.refl _ _⟩
  case round =>
    obtain ⟨f, acc, r, hrf, hlen, hsee, hyr, hga, hown, hbel⟩ := hrel
    have HGA := hid hga
    have HYR := hid hyr
    clear hga hyr
    obtain ⟨a, cap, rfl, hc1, hc2, hcells⟩ := hsee.form
    by_cases hr : 0 < r.length
    · obtain ⟨b, off, rfl, hbw, hcell⟩ := hcells hr
      have HC := hid hcell
      have hc2' := hc2
      unfold maxLen at hc2'
      have hsz := hbel.size
      clear hcells hcell
      go_wp2_with fail
      refine (rget_any _ _ _ (hsee.below hbel) HYR.out).mono ?_
      rintro e w1 ⟨rfl, rfl⟩
      have hb1 := Below.refl w1.heap.size w1
      obtain ⟨f, rfl⟩ : ∃ f', f = f' + 1 := ⟨f - 1, by omega⟩
      by_cases he : (get r).2.2 = 0
      · obtain ⟨j, hj, hj1, hj2⟩ := get_ok r he
        have hst := gaF_step f acc r hr hrf j he hj
        rw [HGA.out] at hst
        have HST := hid hst
        rw [hj, he]
        have hown1 := owns_below hown hb1
        have hbel1 := hbel.trans (hb1.mono hsz)
        have hz1' := hb1.size
        clear hst hsee hj he hb1
        generalize (get r).1 = x at *
        go_wp2_with (at_builtin; refine wpList_append_own _ rfl _ _ 22 rfl w.heap.size 3 i0 (.int .i64 0) 1 8 Try.underlying22 hi hz0 hz1 hz2 rfl (by decide) _ _ _ rfl (hown1.alloc _) ⟨w1.heap.size, 0, none⟩ 1 1 [.int .i64 x] rfl rfl (one_new _ _ _) (one_cell _ _) ?c3 ?c4 ?c5 ?_)
        case c3 => unfold maxLen; omega
        case c4 => omega
        case c5 => simp; omega
        intro v' w2 hown2 hgrow _
        have hown3 : w2.ownsRow w.heap.size 3 1 v' (acc ++ [x]).length ((acc ++ [x]).map (Value.int .i64)) := by simpa using hown2
        have hbel2 : Below w.heap.size w w2 := (hbel1.alloc (by omega) _).grown hgrow (by simp; omega) (fun k hk => (hown1.lt k hk).1)
        have HO := hid hown3
        have HSD := hid (Sees.dropped j hj2 hc1 hc2 HC.out)
        have HB := hid hbel2
        clear hown2 hown3 hgrow hown1 hbel1 hown hbel hbel2
        go_wp2
        all_goals
          go_roundw
          case rel => exact ⟨f, acc ++ [x], r.drop j, by simp; omega, by simp; omega, by first | exact HSD.out | (have := HSD.out; simpa [*] using this), fun c hc => HYR.out c (List.mem_of_mem_drop hc), HST.out.symm, HO.out, HB.out⟩
          case measure => simp [lenOf]; omega
      · have hst := gaF_err f acc r hr he
        rw [HGA.out] at hst
        have HST := hid hst
        have hne : ((get r).2.2 != 0) = true := by simpa using he
        have hb2 := hbel.trans (hb1.mono hsz)
        clear hst
        generalize (get r).2.2 = y at *
        go_wp2
        go_ret2
        exact ⟨_, by rw [HST.out]; rfl, by rw [HST.out]; exact World.ownsRow_nil _ _ _ _, hb2⟩
    · have hr0 : r = [] := List.eq_nil_of_length_eq_zero (by omega)
      subst hr0
      have hst := HGA.out
      rw [gaF_nil] at hst
      have HST := hid hst
      clear hst
      go_wp2
      go_ret2
      exact ⟨_, by rw [← HST.out]; rfl, by rw [← HST.out]; exact hown, hbel⟩
end Go.Proofs.Ytfdoejdnhogepaa
