/-
  What instr.Unpack returns, whatever bytes it is given, and that nothing that was there is written.
-/
import Derived.Test.YtfhjlpkejmjigaaDoorIGet
import Derived.Test.YtfhjlpkejmjigaaDoorWGetAll
import Derived.Deep.AppendLies
namespace Go.Proofs.YtfhjlpkejmjigaaDoor
open Go.RowKit
set_option linter.unusedVariables false

/-- Three new cells, at the head of a new block. -/
theorem three_new (w : World) (x y z : Int) (t : TypeId) : ∀ (j : Nat) (u : Value), [Value.int .i64 x, .int .i64 y, .int .i64 z][j]? = some u → (w.alloc (.cells #[.int .i64 x, .int .i64 y, .int .i64 z] t)).cell? ((⟨w.heap.size, 0, none⟩ : Addr).add j) = some u := by
  intro j u hj
  match j, hj with
  | 0, hj => simp at hj; subst hj; simp [Addr.add]
  | 1, hj => simp at hj; subst hj; simp [Addr.add]
  | 2, hj => simp at hj; subst hj; simp [Addr.add]
  | j + 3, hj => simp at hj
theorem three_cell (x y z : Int) : ∀ u ∈ [Value.int .i64 x, .int .i64 y, .int .i64 z], u.oneCell' = true := by
  intro u hu; simp at hu; rcases hu with rfl | rfl | rfl <;> rfl

theorem take65_snoc (acc : List In) (i : In) (h : (acc.take 65).length ≤ 64) : (acc ++ [i]).take 65 = acc.take 65 ++ [i] := by
  rw [List.length_take] at h
  rw [List.take_of_length_le (by simp; omega), List.take_of_length_le (by omega)]
theorem take65_full (acc : List In) (i : In) (h : 64 < (acc.take 65).length) : (acc ++ [i]).take 65 = acc.take 65 := by
  rw [List.length_take] at h
  rw [List.take_append_of_le_length (by omega)]

set_option maxRecDepth 100000 in
set_option maxHeartbeats 1600000 in
theorem unpack_any (v : Value) (l : List Int) (w : World) (hL : Laid w) (hv : Sees w .u8 v l) (hby : ∀ c ∈ l, 0 ≤ c ∧ c ≤ 255) :
    Calls Tryd.prog 18 #[v] w fun e w' => ∃ u, e = .returned (.tuple #[u, .int .i64 (up l).2]) ∧
      w'.ownsRow w.heap.size 23 3 u (up l).1.length ((up l).1.map In.cells).flatten ∧ Below w.heap.size w w' := by
  obtain ⟨i0, hi, hz0, hz1, hz2⟩ := info_parts Tryd.infoI
  obtain ⟨U, hU⟩ : ∃ g, iupF l.length [] l = g := ⟨_, rfl⟩
  rw [show up l = upR U by rw [up, hU]]
  obtain ⟨R, hR⟩ : ∃ r, upR U = r := ⟨_, rfl⟩
  rw [hR]
  have HUL := hid hU
  have HR := hid hR
  have HY := hid hby
  have HLa := hid hL
  have HV := hid hv
  clear hU hR hby hL hv
  go_enter Tryd.func18, Tryd.ntmps18
  go_wp2
  go_loopw [0, 4] (fun v s wr => ∃ (f : Nat) (acc : List In) (r : List Int), r.length ≤ f ∧ Sees w .u8 v r ∧ (∀ c ∈ r, 0 ≤ c ∧ c ≤ 255) ∧ iupF f acc r = U ∧
      wr.ownsRow w.heap.size 23 3 s (acc.take 65).length ((acc.take 65).map In.cells).flatten ∧ Below w.heap.size w wr) (fun v _ _ => lenOf v)
  case atStart => exact ⟨l.length, [], l, by omega, HV.out, HY.out, HUL.out, World.ownsRow_nil _ _ _ _, Below.refl _ _⟩
  case round =>
    obtain ⟨f, acc, r, hrf, hsee, hyr, hga, hown, hbel⟩ := hrel
    have HGA := hid hga
    have HYR := hid hyr
    clear hga hyr
    have h65 : (acc.take 65).length ≤ 65 := by simp; omega
    have HTS := hid (take65_snoc acc)
    have HTF := hid (take65_full acc)
    have HTA := hid (show (acc.take 65).length ≤ 64 → acc.take 65 = acc ∧ acc.length ≤ 64 by
      intro h; simp only [List.length_take] at h; exact ⟨List.take_of_length_le (by omega), by omega⟩)
    have HTB := hid (show 64 < (acc.take 65).length → 64 < acc.length by intro h; simp only [List.length_take] at h; omega)
    generalize acc.take 65 = A at *
    obtain ⟨sa, sc, hsv, hsc1, hsc2⟩ := owns_slice hown
    subst hsv
    obtain ⟨a, cap, rfl, hc1, hc2, hcells⟩ := hsee.form
    by_cases hr : 0 < r.length
    · obtain ⟨b, off, rfl, hbw, hcell⟩ := hcells hr
      have HC := hid hcell
      have hc2' := hc2
      unfold maxLen at hc2' hsc2
      have hsz := hbel.size
      clear hcells hcell
      go_wp2_with fail
      refine (iget_any _ _ _ (HLa.out.below hbel) (hsee.below hbel) HYR.out).mono ?_
      rintro e w1 ⟨rfl, hb1⟩
      obtain ⟨f, rfl⟩ : ∃ f', f = f' + 1 := ⟨f - 1, by omega⟩
      have hown1 := owns_below hown hb1
      have hbel1 := hbel.trans (hb1.mono hsz)
      have hz1' := hb1.size
      by_cases he : (iget r).2.2 = 0
      · obtain ⟨j, hj, hj1, hj2⟩ := iget_ok r he
        have hst := iupF_step f acc r hr j he hj
        rw [HGA.out] at hst
        have HST := hid hst
        rw [hj, he]
        obtain ⟨vb, HVB, HVL⟩ : ∃ vb, Hid (vb = .slice (if cap = j then some ⟨b, off, none⟩ else some ⟨b, off + j, none⟩) (r.length - j) (cap - j)) ∧ Hid (Sees w .u8 vb (r.drop j)) := ⟨_, hid rfl, hid (Sees.dropped j hj2 hc1 hc2 HC.out)⟩
        clear hst hsee hj he hb1 HC hown
        generalize (iget r).1 = x at *
        obtain ⟨xo, xa, xb⟩ := x
        unfold In.val
        simp only
        by_cases h64 : A.length ≤ 64
        · have HT := hid (HTS.out ⟨xo, xa, xb⟩ h64)
          by_cases hcj : cap = j
          · rw [if_pos hcj, show cap - j = 0 by omega] at HVB
            go_wp2_with (at_builtin; refine wpList_append_own _ rfl _ _ 24 rfl w.heap.size 23 i0 _ 3 24 Tryd.underlying24 hi hz0 hz1 hz2 rfl (by decide) _ _ _ rfl ((hown1.alloc _).alloc _) ⟨w1.heap.size + 1, 0, none⟩ 1 1 [.int .i64 xo, .int .i64 xa, .int .i64 xb] rfl rfl (by have := three_new (w1.alloc (.cells #[.int .i64 xo, .int .i64 xa, .int .i64 xb] 23)) xo xa xb 23; simpa using this) (three_cell _ _ _) ?c3 ?c4 ?c5 ?_)
            case c3 => unfold maxLen; omega
            case c4 => omega
            case c5 => simp; omega
            intro v' w2 hown2 hgrow _
            have hbel2 : Below w.heap.size w w2 := ((hbel1.alloc (by omega) _).alloc (by simp; omega) _).grown hgrow (by simp; omega) (fun k hk => (hown1.lt k hk).1)
            have hown3 : w2.ownsRow w.heap.size 23 3 v' ((acc ++ [(⟨xo, xa, xb⟩ : In)]).take 65).length (((acc ++ [(⟨xo, xa, xb⟩ : In)]).take 65).map In.cells).flatten := by
              rw [HT.out, in_snoc, List.length_append]; exact hown2
            have HO := hid hown3
            have HB2 := hid hbel2
            clear hown2 hown3 hgrow hown1 hbel2 hbel1 hbel
            go_wp2
            go_roundw
            case rel => exact ⟨f, acc ++ [⟨xo, xa, xb⟩], r.drop j, by simp; omega, by rw [← HVB.out]; exact HVL.out, fun c hc => HYR.out c (List.mem_of_mem_drop hc), HST.out.symm, HO.out, HB2.out⟩
            case measure => simp [lenOf]; omega
          · rw [if_neg hcj] at HVB
            go_wp2_with (at_builtin; refine wpList_append_own _ rfl _ _ 24 rfl w.heap.size 23 i0 _ 3 24 Tryd.underlying24 hi hz0 hz1 hz2 rfl (by decide) _ _ _ rfl ((hown1.alloc _).alloc _) ⟨w1.heap.size + 1, 0, none⟩ 1 1 [.int .i64 xo, .int .i64 xa, .int .i64 xb] rfl rfl (by have := three_new (w1.alloc (.cells #[.int .i64 xo, .int .i64 xa, .int .i64 xb] 23)) xo xa xb 23; simpa using this) (three_cell _ _ _) ?c3 ?c4 ?c5 ?_)
            case c3 => unfold maxLen; omega
            case c4 => omega
            case c5 => simp; omega
            intro v' w2 hown2 hgrow _
            have hbel2 : Below w.heap.size w w2 := ((hbel1.alloc (by omega) _).alloc (by simp; omega) _).grown hgrow (by simp; omega) (fun k hk => (hown1.lt k hk).1)
            have hown3 : w2.ownsRow w.heap.size 23 3 v' ((acc ++ [(⟨xo, xa, xb⟩ : In)]).take 65).length (((acc ++ [(⟨xo, xa, xb⟩ : In)]).take 65).map In.cells).flatten := by
              rw [HT.out, in_snoc, List.length_append]; exact hown2
            have HO := hid hown3
            have HB2 := hid hbel2
            clear hown2 hown3 hgrow hown1 hbel2 hbel1 hbel
            go_wp2
            go_roundw
            case rel => exact ⟨f, acc ++ [⟨xo, xa, xb⟩], r.drop j, by simp; omega, by rw [← HVB.out]; exact HVL.out, fun c hc => HYR.out c (List.mem_of_mem_drop hc), HST.out.symm, HO.out, HB2.out⟩
            case measure => simp [lenOf]; omega
        · have HT := hid (HTF.out ⟨xo, xa, xb⟩ (by omega))
          have HB2 := hid (hbel1.alloc (by omega) (.cells #[.int .i64 xo, .int .i64 xa, .int .i64 xb] 23))
          have HO := hid (hown1.alloc (.cells #[.int .i64 xo, .int .i64 xa, .int .i64 xb] 23))
          clear hown1
          by_cases hcj : cap = j
          · rw [if_pos hcj, show cap - j = 0 by omega] at HVB
            go_wp2
            go_roundw
            case rel => exact ⟨f, acc ++ [⟨xo, xa, xb⟩], r.drop j, by simp; omega, by rw [← HVB.out]; exact HVL.out, fun c hc => HYR.out c (List.mem_of_mem_drop hc), HST.out.symm, by rw [HT.out]; exact HO.out, HB2.out⟩
            case measure => simp [lenOf]; omega
          · rw [if_neg hcj] at HVB
            go_wp2
            go_roundw
            case rel => exact ⟨f, acc ++ [⟨xo, xa, xb⟩], r.drop j, by simp; omega, by rw [← HVB.out]; exact HVL.out, fun c hc => HYR.out c (List.mem_of_mem_drop hc), HST.out.symm, by rw [HT.out]; exact HO.out, HB2.out⟩
            case measure => simp [lenOf]; omega
      · have hst := iupF_err f acc r hr he
        rw [HGA.out] at hst
        have hRr := HR.out
        rw [hst, upR, if_neg he] at hRr
        have HRR := hid hRr
        have hne : ((iget r).2.2 != 0) = true := by simpa using he
        clear hst hRr hown hown1
        generalize (iget r).1 = x at *
        generalize (iget r).2.1 = x' at *
        generalize (iget r).2.2 = y at *
        obtain ⟨xo, xa, xb⟩ := x
        unfold In.val
        simp only
        go_wp2
        go_ret2
        exact ⟨_, by rw [← HRR.out]; rfl, by rw [← HRR.out]; exact World.ownsRow_nil _ _ _ _, hbel1.alloc (by omega) _⟩
    · have hr0 : r = [] := List.eq_nil_of_length_eq_zero (by omega)
      subst hr0
      have hst := HGA.out
      rw [iupF_nil] at hst
      have hRr := HR.out
      rw [← hst, upR, if_pos rfl] at hRr
      simp only at hRr
      by_cases h64 : 64 < A.length
      · rw [if_pos (HTB.out h64)] at hRr
        have HRR := hid hRr
        clear hRr hst
        go_wp2
        go_ret2
        exact ⟨_, by rw [← HRR.out]; rfl, by rw [← HRR.out]; exact World.ownsRow_nil _ _ _ _, hbel⟩
      · obtain ⟨ht, ht2⟩ := HTA.out (by omega)
        rw [if_neg (by omega), ← ht] at hRr
        have HRR := hid hRr
        have HO := hid hown
        clear hRr hst ht ht2 hown
        go_wp2
        go_ret2
        exact ⟨_, by rw [← HRR.out]; rfl, by rw [← HRR.out]; exact HO.out, hbel⟩
end Go.Proofs.YtfhjlpkejmjigaaDoor
