/-
  What mem.May returns, whatever regions it is given, and that nothing that was there is written.
-/
import Derived.Test.YtfdoejdnhogepaaMTouch
namespace Go.Proofs.Ytfdoejdnhogepaa
open Go.RowKit
set_option linter.unusedVariables false

/-- Region i fits, and meets none ahead of it. -/
abbrev goodAt (l : List Rg) (n : Int) (i : Nat) : Prop := fitsB (l.getD i Rg.zero) n = true ∧ ∀ j, j < i → meetB (l.getD i Rg.zero) (l.getD j Rg.zero) = false
def mayB (l : List Rg) (n : Int) : Bool := decide (1 ≤ n ∧ n ≤ 64 ∧ l.length ≤ 4 ∧ ∀ i, i < l.length → goodAt l n i)

set_option maxRecDepth 100000 in
set_option maxHeartbeats 400000 in
theorem may_in (vl : Value) (l : List Rg) (n : Int) (w : World) (hv : SeesR w vl l) (hl : ∀ r ∈ l, r.fit) (h1 : 1 ≤ n) (h2 : n ≤ 64) (h4 : l.length ≤ 4) :
    Calls Try.prog 76 #[vl, .int .i64 n] w fun e w' => e = .returned (.bool (mayB l n)) ∧ Below w.heap.size w w' := by
  obtain ⟨al, cl, rfl, hl1, hl2, hlc⟩ := hv.form
  unfold maxLen at hl2
  have HC := hid hlc
  have HL := hid hl
  clear hlc hv hl
  go_enter Try.func76, Try.ntmps76
  go_wp2
  go_loopw [22] (fun t wc => ∃ i : Nat, i ≤ l.length ∧ t = .int .i64 i ∧ (∀ j, j < i → goodAt l n j) ∧ Below w.heap.size w wc) (fun t _ => l.length - (intOf t).toNat)
  case atStart => exact ⟨0, by omega, rfl, by intro j hj; omega, Below.refl _ _⟩
  case round =>
    obtain ⟨i, hi, rfl, hgood, hbel⟩ := hrel
    have HG := hid hgood
    clear hgood
    by_cases hlt : i < l.length
    · obtain ⟨b, off, rfl, hbw, hcell⟩ := HC.out (by omega)
      obtain ⟨c1, c2, c3⟩ := hcell i hlt
      replace c1 := (hbel.cell (by exact hbw)).trans c1
      replace c2 := (hbel.cell (by exact hbw)).trans c2
      replace c3 := (hbel.cell (by exact hbw)).trans c3
      have HCL := hid hcell
      clear hcell HC
      have HF := hid (fit_at HL.out i hlt)
      have HNo := hid (show ¬ goodAt l n i → mayB l n = false by
        intro h; unfold mayB; rw [decide_eq_false]; rintro ⟨_, _, _, h'⟩; exact h (h' i hlt))
      have HGo := hid (show goodAt l n i → ∀ j, j < i + 1 → goodAt l n j by
        intro h j hj
        by_cases e : j = i
        · subst e; exact h
        · exact HG.out j (by omega))
      have HD := hid (show goodAt l n i ↔ fitsB (l.getD i Rg.zero) n = true ∧ ∀ j, j < i → meetB (l.getD i Rg.zero) (l.getD j Rg.zero) = false from Iff.rfl)
      generalize l.getD i Rg.zero = r at *
      obtain ⟨f, m, rw⟩ := r
      simp only at c1 c2 c3
      go_wp2_with fail
      refine (fits_any ⟨f, m, rw⟩ n HF.out ⟨by omega, by omega⟩ _).mono ?_
      rintro e w1 ⟨rfl, hb1⟩
      have d1 : w1.cell? ⟨wr.heap.size, 0, none⟩ = some (.int .i64 f) := (hb1.cell (by simp)).trans (by simp)
      have d2 : w1.cell? ⟨wr.heap.size, 1, none⟩ = some (.int .i64 m) := (hb1.cell (by simp)).trans (by simp)
      have d3 : w1.cell? ⟨wr.heap.size, 2, none⟩ = some (.bool rw) := (hb1.cell (by simp)).trans (by simp)
      have dz : wr.heap.size < w1.heap.size := by have := hb1.size; simp at this; omega
      have hbb : Below w.heap.size w w1 := (hbel.alloc hbel.size _).trans (hb1.mono (by have := hbel.size; simp; omega))
      clear hb1 c1 c2 c3
      by_cases hfit : fitsB ⟨f, m, rw⟩ n = true
      · have hle : (i : Int) ≤ cl := by omega
        go_wp2
        go_loopw [35] (fun t wc => ∃ j : Nat, j ≤ i ∧ t = .int .i64 j ∧ (∀ k, k < j → meetB ⟨f, m, rw⟩ (l.getD k Rg.zero) = false) ∧ Below w1.heap.size w1 wc) (fun t _ => i - (intOf t).toNat)
        case atStart => exact ⟨0, by omega, rfl, by intro k hk; omega, Below.refl _ _⟩
        case round =>
          obtain ⟨j, hj, rfl, hnm, hbel2⟩ := hrel
          have HM := hid hnm
          clear hnm
          rename World => w2
          have hbel3 : Below w.heap.size w w2 := hbb.trans (hbel2.mono hbb.size)
          have e1 := (hbel2.cell (p := ⟨wr.heap.size, 0, none⟩) dz).trans d1
          have e2 := (hbel2.cell (p := ⟨wr.heap.size, 1, none⟩) dz).trans d2
          have e3 := (hbel2.cell (p := ⟨wr.heap.size, 2, none⟩) dz).trans d3
          by_cases hjt : j < i
          · obtain ⟨c1, c2, c3⟩ := HCL.out j (by omega)
            replace c1 := (hbel3.cell (by exact hbw)).trans c1
            replace c2 := (hbel3.cell (by exact hbw)).trans c2
            replace c3 := (hbel3.cell (by exact hbw)).trans c3
            have HF2 := hid ((HG.out j hjt).1)
            have HNo2 := hid (show meetB ⟨f, m, rw⟩ (l.getD j Rg.zero) = true → mayB l n = false by
              intro h; refine HNo.out (fun h' => ?_); have := (HD.out.1 h').2 j hjt; rw [h] at this; cases this)
            have HX := hid (show meetB ⟨f, m, rw⟩ (l.getD j Rg.zero) = false → ∀ k, k < j + 1 → meetB ⟨f, m, rw⟩ (l.getD k Rg.zero) = false by
              intro h k hk
              by_cases e : k = j
              · subst e; exact h
              · exact HM.out k (by omega))
            clear HM
            have hz2 : wr.heap.size < w2.heap.size := by have := hbel2.size; omega
            have e1' : ∀ o, (w2.alloc o).cell? ⟨wr.heap.size, 0, none⟩ = some (.int .i64 f) := fun o => (((Below.refl w2.heap.size w2).alloc (Nat.le_refl _) o).cell (by exact hz2)).trans e1
            have e2' : ∀ o, (w2.alloc o).cell? ⟨wr.heap.size, 1, none⟩ = some (.int .i64 m) := fun o => (((Below.refl w2.heap.size w2).alloc (Nat.le_refl _) o).cell (by exact hz2)).trans e2
            have e3' : ∀ o, (w2.alloc o).cell? ⟨wr.heap.size, 2, none⟩ = some (.bool rw) := fun o => (((Below.refl w2.heap.size w2).alloc (Nat.le_refl _) o).cell (by exact hz2)).trans e3
            generalize l.getD j Rg.zero = r2 at *
            obtain ⟨f2, m2, rw2⟩ := r2
            simp only at c1 c2 c3
            clear d1 d2 d3 HNo HGo HD HF
            go_wp2_with fail
            refine (meet_any ⟨f, m, rw⟩ ⟨f2, m2, rw2⟩ n h2 hfit HF2.out _).mono ?_
            rintro e w3 ⟨rfl, hb3⟩
            have hb4 : Below w1.heap.size w1 w3 := (hbel2.alloc hbel2.size _).trans (hb3.mono (by have := hbel2.size; simp; omega))
            clear e1 e2 e3 e1' e2' e3' c1 c2 c3
            by_cases hmt : meetB ⟨f, m, rw⟩ ⟨f2, m2, rw2⟩ = true
            · have HE := hid (HNo2.out hmt)
              go_wp2
              go_ret
              exact ⟨by rw [HE.out]; rfl, hbb.trans (hb4.mono hbb.size)⟩
            · have hmf : meetB ⟨f, m, rw⟩ ⟨f2, m2, rw2⟩ = false := by simpa using hmt
              have HE := hid (HX.out hmf)
              go_wp2
              go_roundw
              case rel => exact ⟨j + 1, by omega, by go_num, HE.out, hb4⟩
              case measure => simp [intOf]; omega
          · have HE := hid (HGo.out (HD.out.2 ⟨hfit, fun k hk => HM.out k (by omega)⟩))
            clear d1 d2 d3 e1 e2 e3
            go_wp2
            go_roundw
            case rel => exact ⟨i + 1, by omega, by go_num, HE.out, hbel3⟩
            case measure => simp [intOf]; omega
      · have hfit' : fitsB ⟨f, m, rw⟩ n = false := by simpa using hfit
        have HE := hid (HNo.out (fun h => by have := (HD.out.1 h).1; rw [hfit'] at this; cases this))
        go_wp2
        go_ret
        exact ⟨by rw [HE.out]; rfl, hbb⟩
    · have HE := hid (show mayB l n = true by
        unfold mayB; rw [decide_eq_true]; exact ⟨h1, h2, h4, fun i' hi' => HG.out i' (by omega)⟩)
      go_wp2
      go_ret
      exact ⟨by rw [HE.out]; rfl, hbel⟩

set_option maxRecDepth 100000 in
set_option maxHeartbeats 400000 in
theorem may_any (vl : Value) (l : List Rg) (n : Int) (w : World) (hv : SeesR w vl l) (hl : ∀ r ∈ l, r.fit) :
    Calls Try.prog 76 #[vl, .int .i64 n] w fun e w' => e = .returned (.bool (mayB l n)) ∧ Below w.heap.size w w' := by
  by_cases h : 1 ≤ n ∧ n ≤ 64 ∧ l.length ≤ 4
  · exact may_in vl l n w hv hl h.1 h.2.1 h.2.2
  · have HE := hid (show mayB l n = false by unfold mayB; rw [decide_eq_false]; rintro ⟨a, b, c, _⟩; exact h ⟨a, b, c⟩)
    obtain ⟨al, cl, rfl, hl1, hl2, hlc⟩ := hv.form
    unfold maxLen at hl2
    clear hlc hv hl
    by_cases h1 : n < 1
    · clear h
      go_enter Try.func76, Try.ntmps76
      go_wp2
      go_ret
      exact ⟨by rw [HE.out]; rfl, Below.refl _ _⟩
    · by_cases h2 : 64 < n
      · clear h
        go_enter Try.func76, Try.ntmps76
        go_wp2
        go_ret
        exact ⟨by rw [HE.out]; rfl, Below.refl _ _⟩
      · have h4 : (4 : Int) < l.length := by omega
        clear h
        go_enter Try.func76, Try.ntmps76
        go_wp2
        go_ret
        exact ⟨by rw [HE.out]; rfl, Below.refl _ _⟩
end Go.Proofs.Ytfdoejdnhogepaa
