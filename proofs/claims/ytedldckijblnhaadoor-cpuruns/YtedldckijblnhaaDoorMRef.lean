/-
  What the document's own answers of layer 3 return (and quarterdecklaw03.Few), whatever memory and regions they are given, and that nothing that was there is written.
-/
import Derived.Test.YtedldckijblnhaaDoorMLoad
import Derived.Test.YtedldckijblnhaaDoorMMay
namespace Go.Proofs.YtedldckijblnhaaDoor
open Go.RowKit
set_option linter.unusedVariables false

def fewR (r : Rg) : Bool := decide (r.n ≤ 200 ∧ r.f < 1000)
def fewB (m : List Int) (l : List Rg) : Bool := decide (m.length ≤ 200 ∧ l.length ≤ 20) && l.all fewR

theorem all_at_not (l : List Rg) (p : Rg → Bool) (k : Nat) (hk : k < l.length) (h : p (l.getD k Rg.zero) = false) : l.all p = false := by
  rw [List.all_eq_false]
  exact ⟨l[k], List.getElem_mem hk, by simpa [List.getD, List.getElem?_eq_getElem hk] using h⟩
theorem all_of (l : List Rg) (p : Rg → Bool) (h : ∀ j, j < l.length → p (l.getD j Rg.zero) = true) : l.all p = true := by
  rw [List.all_eq_true]
  intro x hx
  obtain ⟨j, hj, rfl⟩ := List.getElem_of_mem hx
  have := h j hj
  simpa [List.getD, List.getElem?_eq_getElem hj] using this
theorem upto_succ {p : Nat → Prop} {j : Nat} (h : ∀ i, i < j → p i) (hj : p j) : ∀ i, i < j + 1 → p i := by
  intro i hi
  by_cases e : i = j
  · subst e; exact hj
  · exact h i (by omega)

set_option maxRecDepth 100000 in
set_option maxHeartbeats 400000 in
theorem few_any (vm vl : Value) (m : List Int) (l : List Rg) (w : World) (hm : Sees w .i64 vm m) (hv : SeesR w vl l) :
    Calls Tryd.prog 11 #[vm, vl] w fun e w' => e = .returned (.bool (fewB m l)) ∧ w' = w := by
  obtain ⟨am, cm, rfl, hm1, hm2, hmc⟩ := hm.form
  obtain ⟨al, cl, rfl, hl1, hl2, hlc⟩ := hv.form
  unfold maxLen at hm2 hl2
  have HC := hid hlc
  clear hmc hlc hm hv
  by_cases h1 : 200 < m.length
  · have HE := hid (show fewB m l = false by simp [fewB]; omega)
    go_enter Tryd.func11, Tryd.ntmps11
    go_wp2
    go_ret
    exact ⟨by rw [HE.out]; rfl, rfl⟩
  by_cases h2 : 20 < l.length
  · have HE := hid (show fewB m l = false by simp [fewB]; omega)
    go_enter Tryd.func11, Tryd.ntmps11
    go_wp2
    go_ret
    exact ⟨by rw [HE.out]; rfl, rfl⟩
  go_enter Tryd.func11, Tryd.ntmps11
  go_wp2
  go_loop [5] (fun i => ∃ j : Nat, j ≤ l.length ∧ i = .int .i64 j ∧ (∀ i, i < j → fewR (l.getD i Rg.zero) = true)) (fun i => l.length - (intOf i).toNat)
  case atStart => exact ⟨0, by omega, rfl, by intro i hi; omega⟩
  case round =>
    obtain ⟨j, hj, rfl, hno⟩ := hrel
    have HN := hid hno
    clear hno
    by_cases hlt : j < l.length
    · obtain ⟨b, off, rfl, hbw, hcell⟩ := HC.out (by omega)
      obtain ⟨c1, c2, c3⟩ := hcell j hlt
      clear hcell HC
      have HJ := hid (show fewR (l.getD j Rg.zero) = false → fewB m l = false by
        intro h; unfold fewB; rw [all_at_not l _ j hlt h]; simp)
      have HX := hid (fun h => upto_succ HN.out h)
      clear HN
      generalize l.getD j Rg.zero = r at *
      obtain ⟨f, n, rw⟩ := r
      simp only at c1 c2 c3
      by_cases hn : 200 < n
      · have HE := hid (HJ.out (by simp [fewR]; omega))
        go_wp2
        go_ret
        exact ⟨by rw [HE.out]; rfl, rfl⟩
      · by_cases hf : 1000 ≤ f
        · have HE := hid (HJ.out (by simp [fewR]; omega))
          go_wp2
          go_ret
          exact ⟨by rw [HE.out]; rfl, rfl⟩
        · have HE := hid (HX.out (by simp [fewR]; omega))
          go_wp2
          go_round
          case rel => exact ⟨j + 1, by omega, by go_num, HE.out⟩
          case measure => simp [intOf]; omega
    · have HE := hid (show fewB m l = true by
        unfold fewB; rw [all_of l _ (fun i hi => HN.out i (by omega)), decide_eq_true (by omega)]; rfl)
      go_wp2
      go_ret
      exact ⟨by rw [HE.out]; rfl, rfl⟩

def inB (r : Rg) (k : Int) : Bool := decide (0 ≤ r.f ∧ r.f < 1000 ∧ r.f ≤ k ∧ k - r.f < r.n ∧ k - r.f < 200)

set_option maxRecDepth 100000 in
set_option maxHeartbeats 400000 in
theorem in_any (r : Rg) (k : Int) (w : World) :
    Calls Tryd.prog 87 #[r.val, .int .i64 k] w fun e w' => e = .returned (.bool (inB r k)) ∧ Below w.heap.size w w' := by
  obtain ⟨f, n, wq⟩ := r
  unfold Rg.val
  simp only
  go_enter Tryd.func87, Tryd.ntmps87
  go_wp2
  go_loop [5] (fun i => ∃ j : Nat, j ≤ 200 ∧ (j : Int) ≤ max n 0 ∧ i = .int .i64 j ∧ (0 ≤ f → f < 1000 → ∀ i : Nat, i < j → f + i ≠ k)) (fun i => 200 - (intOf i).toNat)
  case atStart => exact ⟨0, by omega, by omega, rfl, by intro _ _ i hi; omega⟩
  case round =>
    obtain ⟨j, hj, hjn, rfl, hno⟩ := hrel
    have HN := hid hno
    clear hno
    by_cases hlt : (j : Int) < n
    · by_cases h2 : (j : Int) < 200
      · by_cases hf : 0 ≤ f
        · by_cases hf2 : f < 1000
          · by_cases hk : f + j = k
            · have HE := hid (show inB ⟨f, n, wq⟩ k = true by simp [inB]; omega)
              have hkb : (f + (j : Int) == k) = true := by simp [hk]
              clear hk
              go_wp2
              go_ret
              exact ⟨by rw [HE.out]; rfl, (Below.refl _ _).alloc (Nat.le_refl _) _⟩
            · have hkb : (f + (j : Int) == k) = false := by simp [hk]
              have HE := hid (fun i (hi : i < j + 1) => show f + (i : Int) ≠ k from upto_succ (fun i hi => HN.out hf hf2 i hi) hk i hi)
              clear hk
              go_wp2
              go_round
              case rel => exact ⟨j + 1, by omega, by omega, by go_num, fun _ _ => HE.out⟩
              case measure => simp [intOf]; omega
          · go_wp2
            go_round
            case rel => exact ⟨j + 1, by omega, by omega, by go_num, fun _ h => absurd h hf2⟩
            case measure => simp [intOf]; omega
        · go_wp2
          go_round
          case rel => exact ⟨j + 1, by omega, by omega, by go_num, fun h => absurd h hf⟩
          case measure => simp [intOf]; omega
      · have HE := hid (show inB ⟨f, n, wq⟩ k = false by
          unfold inB; rw [decide_eq_false]; rintro ⟨a, b, c, d, e⟩
          simp only at a b c d e
          exact HN.out a b (k - f).toNat (by omega) (by omega))
        go_wp2
        go_ret
        exact ⟨by rw [HE.out]; rfl, (Below.refl _ _).alloc (Nat.le_refl _) _⟩
    · have HE := hid (show inB ⟨f, n, wq⟩ k = false by
        unfold inB; rw [decide_eq_false]; rintro ⟨a, b, c, d, e⟩
        simp only at a b c d e
        exact HN.out a b (k - f).toNat (by omega) (by omega))
      go_wp2
      go_ret
      exact ⟨by rw [HE.out]; rfl, (Below.refl _ _).alloc (Nat.le_refl _) _⟩

def rokB (r : Rg) (k : Int) (q : Bool) : Bool := inB r k && (r.wr || !q)
def manyN (l : List Rg) (k : Int) (q : Bool) : Nat := (l.filter (rokB · k q)).length

theorem many_snoc (l : List Rg) (k : Int) (q : Bool) (j : Nat) (h : j < l.length) : manyN (l.take (j + 1)) k q = manyN (l.take j) k q + if rokB (l.getD j Rg.zero) k q then 1 else 0 := by
  unfold manyN
  rw [List.take_succ_eq_append_getElem h, List.filter_append, List.length_append]
  simp only [List.getD, List.getElem?_eq_getElem h, Option.getD_some]
  cases hx : rokB l[j] k q <;> simp [hx]
theorem many_le (l : List Rg) (k : Int) (q : Bool) (j : Nat) : manyN (l.take j) k q ≤ j := by
  unfold manyN
  exact Nat.le_trans (List.length_filter_le _ _) (List.length_take_le _ _)

set_option maxRecDepth 100000 in
set_option maxHeartbeats 400000 in
theorem many_any (vl : Value) (l : List Rg) (k : Int) (q : Bool) (w : World) (hv : SeesR w vl l) :
    Calls Tryd.prog 74 #[vl, .int .i64 k, .bool q] w fun e w' => e = .returned (.int .i64 (manyN l k q)) ∧ Below w.heap.size w w' := by
  obtain ⟨al, cl, rfl, hl1, hl2, hlc⟩ := hv.form
  unfold maxLen at hl2
  have HC := hid hlc
  clear hlc hv
  go_enter Tryd.func74, Tryd.ntmps74
  go_wp2
  go_loopw [7, 8] (fun c i wc => ∃ j : Nat, j ≤ l.length ∧ i = .int .i64 j ∧ c = .int .i64 (manyN (l.take j) k q) ∧ Below w.heap.size w wc) (fun _ i _ => l.length - (intOf i).toNat)
  case atStart => exact ⟨0, by omega, rfl, rfl, Below.refl _ _⟩
  case round =>
    obtain ⟨j, hj, rfl, rfl, hbel⟩ := hrel
    have hml := many_le l k q j
    by_cases hlt : j < l.length
    · obtain ⟨b, off, rfl, hbw, hcell⟩ := HC.out (by omega)
      obtain ⟨c1, c2, c3⟩ := hcell j hlt
      have HB := hid c3
      replace c1 := (hbel.cell (by exact hbw)).trans c1
      replace c2 := (hbel.cell (by exact hbw)).trans c2
      replace c3 := (hbel.cell (by exact hbw)).trans c3
      clear hcell HC
      have HS := hid (many_snoc l k q j hlt)
      generalize manyN (l.take j) k q = c at *
      generalize l.getD j Rg.zero = r at *
      obtain ⟨f, n, rw⟩ := r
      simp only at c1 c2 c3
      go_wp2_with fail
      refine (in_any ⟨f, n, rw⟩ k _).mono ?_
      rintro e w1 ⟨rfl, hb1⟩
      have hbb : Below w.heap.size w w1 := hbel.trans (hb1.mono hbel.size)
      have d3 : w1.cell? ⟨b, off + j * 3 + 2, none⟩ = some (.bool rw) := (hbb.cell (by exact hbw)).trans HB.out
      unfold rokB at HS
      simp only at HS
      generalize inB ⟨f, n, rw⟩ k = hB at *
      clear HB hb1 c1 c2 c3 hbel
      rcases hB with _ | _ <;> rcases rw with _ | _ <;> rcases q with _ | _
      all_goals go_wp2
      all_goals
        go_roundw
        case rel => exact ⟨j + 1, by omega, by go_num, by rw [HS.out]; go_num, hbb⟩
        case measure => simp [intOf]; omega
    · have HE := hid (show l.take j = l from List.take_of_length_le (by omega))
      go_wp2
      go_ret
      exact ⟨by rw [HE.out]; rfl, hbel⟩

def rtouchE (n : Nat) (l : List Rg) (k : Int) (q : Bool) : Int := if k < 0 ∨ (n : Int) ≤ k then 4 else if manyN l k q = 0 then 6 else 0

set_option maxRecDepth 100000 in
set_option maxHeartbeats 400000 in
theorem touch_any (vm vl : Value) (m : List Int) (l : List Rg) (k : Int) (q : Bool) (w : World) (hm : Sees w .i64 vm m) (hv : SeesR w vl l) :
    Calls Tryd.prog 36 #[vm, vl, .int .i64 k, .bool q] w fun e w' => e = .returned (.int .i64 (rtouchE m.length l k q)) ∧ Below w.heap.size w w' := by
  obtain ⟨am, cm, rfl, hm1, hm2, hmc⟩ := hm.form
  unfold maxLen at hm2
  have HM := hid (many_any vl l k q w hv)
  have HE := hid (show rtouchE m.length l k q = if k < 0 ∨ (m.length : Int) ≤ k then 4 else if manyN l k q = 0 then 6 else 0 from rfl)
  clear hmc hm hv
  generalize rtouchE m.length l k q = t at *
  by_cases h1 : k < 0
  · rw [if_pos (.inl h1)] at HE
    have := HE.out
    subst this
    clear HE
    go_enter Tryd.func36, Tryd.ntmps36
    go_wp2
    go_ret
    exact ⟨rfl, Below.refl _ _⟩
  by_cases h2 : (m.length : Int) ≤ k
  · rw [if_pos (.inr h2)] at HE
    have := HE.out
    subst this
    clear HE
    go_enter Tryd.func36, Tryd.ntmps36
    go_wp2
    go_ret
    exact ⟨rfl, Below.refl _ _⟩
  rw [if_neg (by omega)] at HE
  generalize manyN l k q = c at *
  go_enter Tryd.func36, Tryd.ntmps36
  go_wp2_with fail
  refine (HM.out).mono ?_
  rintro e w1 ⟨rfl, hb1⟩
  by_cases hc : c = 0
  · have := HE.out
    rw [if_pos hc] at this
    subst this
    subst hc
    clear HE HM
    go_wp2
    go_ret
    exact ⟨rfl, hb1⟩
  · have := HE.out
    rw [if_neg hc] at this
    subst this
    have hcb : ((c : Int) == 0) = false := by rw [beq_eq_false_iff_ne]; omega
    clear HE HM hc
    go_wp2
    go_ret
    exact ⟨rfl, hb1⟩
end Go.Proofs.YtedldckijblnhaaDoor
