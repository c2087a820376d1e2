/-
  What the generic test of a list returns, whatever list and test it is given, and that nothing that was there is written.
-/
import Derived.Test.YtfdoejdnhogepaaTAll
namespace Go.Proofs.Ytfdoejdnhogepaa
open Go.RowKit
set_option linter.unusedVariables false

set_option maxRecDepth 100000 in
set_option maxHeartbeats 800000 in
theorem all_I (g : Nat) (fst : Array Value) (eg : ∀ args w, (callFunc g args).run Try.prog w = .ok (.enter g args) w) (lo up : Int) (l : List Int) (v : Value) (p : Nat → Bool) (w : World) (hv : Sees w .i64 v l)
    (hp : ∀ i, i < l.length → ∀ W, Below w.heap.size w W → Calls Try.prog g (fst.push (.int .i64 (l.getD i 0))) W fun e w' => e = .returned (.bool (p i)) ∧ Below W.heap.size W w') :
    Calls Try.prog 45 #[v, spV lo up, .func (.func g) fst #[]] w fun e w' => e = .returned (.bool (inB lo up l.length && allN p l.length)) ∧ Below w.heap.size w w' := by
  obtain ⟨al, cl, rfl, hl1, hl2, hlc⟩ := hv.form
  unfold maxLen at hl2
  have HC := hid hlc
  have HP := hid hp
  clear hlc hv hp
  unfold spV
  go_enter Try.func45, Try.ntmps45
  go_wp2_with fail
  refine (span_any lo up l.length _).mono ?_
  rintro e w1 ⟨rfl, hb⟩
  have hB : Below w.heap.size w w1 := ((Below.refl _ _).alloc (Nat.le_refl _) _).trans (hb.mono (by simp))
  clear hb
  rcases hin : inB lo up l.length
  · go_wp2
    go_ret
    exact ⟨by simp [hin], hB⟩
  go_wp2
  go_loopw [16] (fun t wc => ∃ i : Nat, i ≤ l.length ∧ t = .int .i64 i ∧ (∀ j, j < i → p j = true) ∧ Below w.heap.size w wc) (fun t _ => l.length - (intOf t).toNat)
  case atStart => exact ⟨0, by omega, rfl, by intro j hj; omega, hB⟩
  case round =>
    obtain ⟨i, hi, rfl, hgood, hbel⟩ := hrel
    have HG := hid hgood
    clear hgood hB
    by_cases hlt : i < l.length
    · obtain ⟨b, off, rfl, hbw, hcell⟩ := HC.out (by omega)
      have c0 := (hbel.cell (by exact hbw)).trans (hcell i hlt)
      have HPi := hid (HP.out i hlt)
      have HNo := hid (show p i = false → allN p l.length = false from fun h => allN_no p _ i hlt h)
      have HGo := hid (show p i = true → ∀ j, j < i + 1 → p j = true by
        intro h j hj
        by_cases e : j = i
        · subst e; exact h
        · exact HG.out j (by omega))
      clear hcell HC HP HG
      generalize l.getD i 0 = r at *
      go_wp2_with fail
      refine (HPi.out _ hbel).mono ?_
      rintro e w2 ⟨rfl, hb2⟩
      have hB2 : Below w.heap.size w w2 := hbel.trans (hb2.mono hbel.size)
      clear hb2 c0
      rcases hpi : p i
      · have HN := hid (HNo.out hpi)
        clear HNo HGo
        go_wp2
        go_ret
        exact ⟨by simp [HN.out], hB2⟩
      · have HN := hid (HGo.out hpi)
        clear HNo HGo
        go_wp2
        go_roundw
        case rel => exact ⟨i + 1, by omega, by go_num, HN.out, hB2⟩
        case measure => simp [intOf]; omega
    · have HE := hid (show allN p l.length = true from allN_yes p _ (fun j hj => HG.out j (by omega)))
      go_wp2
      go_ret
      exact ⟨by simp [HE.out, hin], hbel⟩
end Go.Proofs.Ytfdoejdnhogepaa
