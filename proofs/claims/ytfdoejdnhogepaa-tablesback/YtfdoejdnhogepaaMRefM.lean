/-
  What the document's own test of regions returns, whatever regions it is given; that it is what the program's returns.
-/
import Derived.Test.YtfdoejdnhogepaaMMay
namespace Go.Proofs.Ytfdoejdnhogepaa
open Go.RowKit
set_option linter.unusedVariables false

theorem upto_succ {p : Nat → Prop} {j : Nat} (h : ∀ i, i < j → p i) (hj : p j) : ∀ i, i < j + 1 → p i := by
  intro i hi
  by_cases e : i = j
  · subst e; exact hj
  · exact h i (by omega)

def inRB (r : Rg) (k : Int) : Bool := decide (0 ≤ r.f ∧ r.f < 1000 ∧ r.f ≤ k ∧ k - r.f < r.n ∧ k - r.f < 200)

set_option maxRecDepth 100000 in
set_option maxHeartbeats 400000 in
theorem in_any (r : Rg) (k : Int) (w : World) :
    Calls Try.prog 105 #[r.val, .int .i64 k] w fun e w' => e = .returned (.bool (inRB r k)) ∧ Below w.heap.size w w' := by
  obtain ⟨f, n, wq⟩ := r
  unfold Rg.val
  simp only
  go_enter Try.func105, Try.ntmps105
  go_wp2
  go_loop [5] (fun i => ∃ j : Nat, j ≤ 200 ∧ (j : Int) ≤ max n 0 ∧ i = .int .i64 j ∧ (0 ≤ f → f < 1000 → ∀ i : Nat, i < j → f + i ≠ k)) (fun i => 200 - (intOf i).toNat)
  case atStart => exact ⟨0, by omega, by omega, rfl, by intro _ _ i hi; omega⟩
  case round =>
    obtain ⟨j, hj, hjn, rfl, hno⟩ := hrel
    have HN := hid hno
    clear hno
    by_cases hlt : (j : Int) < n
    · by_cases h2 : (j : Int) < 200
      · by_cases hf : 0 ≤ f
        · by_cases hf2 : f < 1000
          · by_cases hk : f + j = k
            · have HE := hid (show inRB ⟨f, n, wq⟩ k = true by simp [inRB]; omega)
              have hkb : (f + (j : Int) == k) = true := by simp [hk]
              clear hk
              go_wp2
              go_ret
              exact ⟨by rw [HE.out]; rfl, (Below.refl _ _).alloc (Nat.le_refl _) _⟩
            · have hkb : (f + (j : Int) == k) = false := by simp [hk]
              have HE := hid (fun i (hi : i < j + 1) => show f + (i : Int) ≠ k from upto_succ (fun i hi => HN.out hf hf2 i hi) hk i hi)
              clear hk
              go_wp2
              go_round
              case rel => exact ⟨j + 1, by omega, by omega, by go_num, fun _ _ => HE.out⟩
              case measure => simp [intOf]; omega
          · go_wp2
            go_round
            case rel => exact ⟨j + 1, by omega, by omega, by go_num, fun _ h => absurd h hf2⟩
            case measure => simp [intOf]; omega
        · go_wp2
          go_round
          case rel => exact ⟨j + 1, by omega, by omega, by go_num, fun h => absurd h hf⟩
          case measure => simp [intOf]; omega
      · have HE := hid (show inRB ⟨f, n, wq⟩ k = false by
          unfold inRB; rw [decide_eq_false]; rintro ⟨a, b, c, d, e⟩
          simp only at a b c d e
          exact HN.out a b (k - f).toNat (by omega) (by omega))
        go_wp2
        go_ret
        exact ⟨by rw [HE.out]; rfl, (Below.refl _ _).alloc (Nat.le_refl _) _⟩
    · have HE := hid (show inRB ⟨f, n, wq⟩ k = false by
        unfold inRB; rw [decide_eq_false]; rintro ⟨a, b, c, d, e⟩
        simp only at a b c d e
        exact HN.out a b (k - f).toNat (by omega) (by omega))
      go_wp2
      go_ret
      exact ⟨by rw [HE.out]; rfl, (Below.refl _ _).alloc (Nat.le_refl _) _⟩

def rokB (r : Rg) (k : Int) (q : Bool) : Bool := inRB r k && (r.wr || !q)
def manyN (l : List Rg) (k : Int) (q : Bool) : Nat := (l.filter (rokB · k q)).length

theorem many_snoc (l : List Rg) (k : Int) (q : Bool) (j : Nat) (h : j < l.length) : manyN (l.take (j + 1)) k q = manyN (l.take j) k q + if rokB (l.getD j Rg.zero) k q then 1 else 0 := by
  unfold manyN
  rw [List.take_succ_eq_append_getElem h, List.filter_append, List.length_append]
  simp only [List.getD, List.getElem?_eq_getElem h, Option.getD_some]
  cases hx : rokB l[j] k q <;> simp [hx]
theorem many_le (l : List Rg) (k : Int) (q : Bool) (j : Nat) : manyN (l.take j) k q ≤ j := by
  unfold manyN
  exact Nat.le_trans (List.length_filter_le _ _) (List.length_take_le _ _)

set_option maxRecDepth 100000 in
set_option maxHeartbeats 400000 in
theorem many_any (vl : Value) (l : List Rg) (k : Int) (q : Bool) (w : World) (hv : SeesR w vl l) :
    Calls Try.prog 98 #[vl, .int .i64 k, .bool q] w fun e w' => e = .returned (.int .i64 (manyN l k q)) ∧ Below w.heap.size w w' := by
  obtain ⟨al, cl, rfl, hl1, hl2, hlc⟩ := hv.form
  unfold maxLen at hl2
  have HC := hid hlc
  clear hlc hv
  go_enter Try.func98, Try.ntmps98
  go_wp2
  go_loopw [7, 8] (fun c i wc => ∃ j : Nat, j ≤ l.length ∧ i = .int .i64 j ∧ c = .int .i64 (manyN (l.take j) k q) ∧ Below w.heap.size w wc) (fun _ i _ => l.length - (intOf i).toNat)
  case atStart => exact ⟨0, by omega, rfl, rfl, Below.refl _ _⟩
  case round =>
    obtain ⟨j, hj, rfl, rfl, hbel⟩ := hrel
    have hml := many_le l k q j
    by_cases hlt : j < l.length
    · obtain ⟨b, off, rfl, hbw, hcell⟩ := HC.out (by omega)
      obtain ⟨c1, c2, c3⟩ := hcell j hlt
      have HB := hid c3
      replace c1 := (hbel.cell (by exact hbw)).trans c1
      replace c2 := (hbel.cell (by exact hbw)).trans c2
      replace c3 := (hbel.cell (by exact hbw)).trans c3
      clear hcell HC
      have HS := hid (many_snoc l k q j hlt)
      generalize manyN (l.take j) k q = c at *
      generalize l.getD j Rg.zero = r at *
      obtain ⟨f, n, rw⟩ := r
      simp only at c1 c2 c3
      go_wp2_with fail
      refine (in_any ⟨f, n, rw⟩ k _).mono ?_
      rintro e w1 ⟨rfl, hb1⟩
      have hbb : Below w.heap.size w w1 := hbel.trans (hb1.mono hbel.size)
      have d3 : w1.cell? ⟨b, off + j * 3 + 2, none⟩ = some (.bool rw) := (hbb.cell (by exact hbw)).trans HB.out
      unfold rokB at HS
      simp only at HS
      generalize inRB ⟨f, n, rw⟩ k = hB at *
      clear HB hb1 c1 c2 c3 hbel
      rcases hB with _ | _ <;> rcases rw with _ | _ <;> rcases q with _ | _
      all_goals go_wp2
      all_goals
        go_roundw
        case rel => exact ⟨j + 1, by omega, by go_num, by rw [HS.out]; go_num, hbb⟩
        case measure => simp [intOf]; omega
    · have HE := hid (show l.take j = l from List.take_of_length_le (by omega))
      go_wp2
      go_ret
      exact ⟨by rw [HE.out]; rfl, hbel⟩

def rmayB (l : List Rg) (n : Int) : Bool := decide (1 ≤ n ∧ n ≤ 64 ∧ l.length ≤ 4 ∧ (∀ i, i < l.length → fitsB (l.getD i Rg.zero) n = true) ∧ ∀ k : Nat, k < n.toNat → manyN l k false ≤ 1)

set_option maxRecDepth 100000 in
set_option maxHeartbeats 1000000 in
theorem rmay_in (vl : Value) (l : List Rg) (n : Int) (w : World) (hv : SeesR w vl l) (hl : ∀ r ∈ l, r.fit) (h1 : 1 ≤ n) (h2 : n ≤ 64) (h4 : l.length ≤ 4) :
    Calls Try.prog 71 #[vl, .int .i64 n] w fun e w' => e = .returned (.bool (rmayB l n)) ∧ Below w.heap.size w w' := by
  have hv' := hv
  obtain ⟨al, cl, rfl, hl1, hl2, hlc⟩ := hv.form
  unfold maxLen at hl2
  have HV := hid hv'
  have HC := hid hlc
  have HL := hid hl
  clear hlc hv hl hv'
  go_enter Try.func71, Try.ntmps71
  go_wp2
  go_loopw [5] (fun t wc => ∃ i : Nat, i ≤ l.length ∧ t = .int .i64 i ∧ (∀ j, j < i → fitsB (l.getD j Rg.zero) n = true) ∧ Below w.heap.size w wc) (fun t _ => l.length - (intOf t).toNat)
  case atStart => exact ⟨0, by omega, rfl, by intro j hj; omega, Below.refl _ _⟩
  case round =>
    obtain ⟨i, hi, rfl, hgood, hbel⟩ := hrel
    have HG := hid hgood
    clear hgood
    by_cases hlt : i < l.length
    · obtain ⟨b, off, rfl, hbw, hcell⟩ := HC.out (by omega)
      obtain ⟨c1, c2, c3⟩ := hcell i hlt
      replace c1 := (hbel.cell (by exact hbw)).trans c1
      replace c2 := (hbel.cell (by exact hbw)).trans c2
      replace c3 := (hbel.cell (by exact hbw)).trans c3
      clear hcell HC
      have hF := fit_at HL.out i hlt
      have HNo := hid (show fitsB (l.getD i Rg.zero) n = false → rmayB l n = false by
        intro h; unfold rmayB; rw [decide_eq_false]; rintro ⟨_, _, _, h', _⟩; rw [h' i hlt] at h; cases h)
      have HGo := hid (fun h => upto_succ HG.out h)
      clear HG HL
      have hbb : Below w.heap.size w (wr.alloc (.cells #[.int .i64 (l.getD i Rg.zero).f, .int .i64 (l.getD i Rg.zero).n, .bool (l.getD i Rg.zero).wr] 102)) := hbel.alloc hbel.size _
      generalize l.getD i Rg.zero = r at *
      obtain ⟨f, m, rw⟩ := r
      obtain ⟨f1, f2, f3, f4⟩ := hF
      simp only at c1 c2 c3 f1 f2 f3 f4
      by_cases hf : 0 ≤ f
      · by_cases hf2 : f ≤ n
        · by_cases hm : 1 ≤ m
          · by_cases hm2 : m ≤ n
            · by_cases hm3 : f + m ≤ n
              · have HE := hid (HGo.out (by simp [fitsB]; omega))
                go_wp2
                go_roundw
                case rel => exact ⟨i + 1, by omega, by go_num, HE.out, hbb⟩
                case measure => simp [intOf]; omega
              · have HE := hid (HNo.out (by simp [fitsB]; omega))
                go_wp2
                go_ret
                exact ⟨by rw [HE.out]; rfl, hbb⟩
            · have HE := hid (HNo.out (by simp [fitsB]; omega))
              go_wp2
              go_ret
              exact ⟨by rw [HE.out]; rfl, hbb⟩
          · have HE := hid (HNo.out (by simp [fitsB]; omega))
            go_wp2
            go_ret
            exact ⟨by rw [HE.out]; rfl, hbb⟩
        · have HE := hid (HNo.out (by simp [fitsB]; omega))
          go_wp2
          go_ret
          exact ⟨by rw [HE.out]; rfl, hbb⟩
      · have HE := hid (HNo.out (by simp [fitsB]; omega))
        go_wp2
        go_ret
        exact ⟨by rw [HE.out]; rfl, hbb⟩
    · have HF := hid (show ∀ i, i < l.length → fitsB (l.getD i Rg.zero) n = true from fun i' hi' => HG.out i' (by omega))
      clear HG HC HL
      obtain ⟨nn, rfl⟩ := Int.eq_ofNat_of_zero_le (show 0 ≤ n by omega)
      go_wp2
      go_loopw [7] (fun t wc => ∃ k : Nat, k ≤ nn ∧ t = .int .i64 k ∧ (∀ j : Nat, j < k → manyN l j false ≤ 1) ∧ Below w.heap.size w wc) (fun t _ => nn - (intOf t).toNat)
      case atStart => exact ⟨0, by omega, rfl, by intro j hj; omega, hbel⟩
      case round =>
        obtain ⟨k, hk, rfl, hone, hbel2⟩ := hrel
        have HO := hid hone
        clear hone
        by_cases hkt : k < nn
        · have HX := hid (fun h => upto_succ HO.out h)
          have HNo := hid (show 1 < manyN l k false → rmayB l nn = false by
            intro h; unfold rmayB; rw [decide_eq_false]; rintro ⟨_, _, _, _, h'⟩; have := h' k (by simpa using hkt); omega)
          have HM := hid (many_any _ l k false _ (HV.out.below hbel2))
          have hle : manyN l k false ≤ 4 := Nat.le_trans (List.length_filter_le _ _) h4
          clear HO
          go_wp2_with fail
          refine (HM.out).mono ?_
          rintro e w1 ⟨rfl, hb1⟩
          have hbb : Below w.heap.size w w1 := hbel2.trans (hb1.mono hbel2.size)
          clear HM
          by_cases hc : 1 < manyN l k false
          · have HE := hid (HNo.out hc)
            clear HX HNo
            generalize manyN l k false = c at *
            go_wp2
            go_ret
            exact ⟨by rw [HE.out]; rfl, hbb⟩
          · have HE := hid (HX.out (by omega))
            clear HX HNo
            generalize manyN l k false = c at *
            go_wp2
            go_roundw
            case rel => exact ⟨k + 1, by omega, by go_num, HE.out, hbb⟩
            case measure => simp [intOf]; omega
        · have HE := hid (show rmayB l nn = true by
            unfold rmayB; rw [decide_eq_true]; exact ⟨h1, h2, h4, HF.out, fun j hj => HO.out j (by simp at hj; omega)⟩)
          go_wp2
          go_ret
          exact ⟨by rw [HE.out]; rfl, hbel2⟩

set_option maxRecDepth 100000 in
set_option maxHeartbeats 400000 in
theorem rmay_any (vl : Value) (l : List Rg) (n : Int) (w : World) (hv : SeesR w vl l) (hl : ∀ r ∈ l, r.fit) :
    Calls Try.prog 71 #[vl, .int .i64 n] w fun e w' => e = .returned (.bool (rmayB l n)) ∧ Below w.heap.size w w' := by
  by_cases h : 1 ≤ n ∧ n ≤ 64 ∧ l.length ≤ 4
  · exact rmay_in vl l n w hv hl h.1 h.2.1 h.2.2
  · have HE := hid (show rmayB l n = false by unfold rmayB; rw [decide_eq_false]; rintro ⟨a, b, c, _⟩; exact h ⟨a, b, c⟩)
    obtain ⟨al, cl, rfl, hl1, hl2, hlc⟩ := hv.form
    unfold maxLen at hl2
    clear hlc hv hl
    by_cases h1 : n < 1
    · clear h
      go_enter Try.func71, Try.ntmps71
      go_wp2
      go_ret
      exact ⟨by rw [HE.out]; rfl, Below.refl _ _⟩
    · by_cases h2 : 64 < n
      · clear h
        go_enter Try.func71, Try.ntmps71
        go_wp2
        go_ret
        exact ⟨by rw [HE.out]; rfl, Below.refl _ _⟩
      · have h4 : (4 : Int) < l.length := by omega
        clear h
        go_enter Try.func71, Try.ntmps71
        go_wp2
        go_ret
        exact ⟨by rw [HE.out]; rfl, Below.refl _ _⟩
/-- At most one has it just if no two have it. -/
theorem filter_one (l : List Rg) (p : Rg → Bool) : (l.filter p).length ≤ 1 ↔ ∀ i j, j < i → i < l.length → p (l.getD i Rg.zero) = true → p (l.getD j Rg.zero) = true → False := by
  induction l with
  | nil => simp
  | cons a l ih =>
    constructor
    · intro h i j hji hi hpi hpj
      cases i with
      | zero => omega
      | succ i =>
        have hi' : i < l.length := by simpa using hi
        have hpi' : p (l.getD i Rg.zero) = true := by simpa [List.getD] using hpi
        cases j with
        | zero =>
          have hpa : p a = true := by simpa [List.getD] using hpj
          rw [List.filter_cons_of_pos hpa, List.length_cons] at h
          have h0 : (l.filter p) = [] := List.eq_nil_of_length_eq_zero (by omega)
          rw [List.filter_eq_nil_iff] at h0
          exact h0 l[i] (List.getElem_mem hi') (by simpa [List.getD, List.getElem?_eq_getElem hi'] using hpi')
        | succ j =>
          have hpj' : p (l.getD j Rg.zero) = true := by simpa [List.getD] using hpj
          refine ih.1 ?_ i j (by omega) hi' hpi' hpj'
          cases hpa : p a
          · rw [List.filter_cons_of_neg (by simp [hpa])] at h; exact h
          · rw [List.filter_cons_of_pos hpa, List.length_cons] at h; omega
    · intro h
      have hl : (l.filter p).length ≤ 1 := ih.2 (fun i j hji hi hpi hpj => h (i + 1) (j + 1) (by omega) (by simpa using hi) (by simpa [List.getD] using hpi) (by simpa [List.getD] using hpj))
      cases hpa : p a
      · rw [List.filter_cons_of_neg (by simp [hpa])]; exact hl
      · rw [List.filter_cons_of_pos hpa, List.length_cons]
        have h0 : l.filter p = [] := by
          rw [List.filter_eq_nil_iff]
          intro x hx hpx
          obtain ⟨i, hi, rfl⟩ := List.getElem_of_mem hx
          exact h (i + 1) 0 (by omega) (by simpa using hi) (by simpa [List.getD, List.getElem?_eq_getElem hi] using hpx) (by simpa [List.getD] using hpa)
        rw [h0]; simp

theorem rok_false (r : Rg) (k : Int) : rokB r k false = inRB r k := by simp [rokB]

theorem in_fits (r : Rg) (n k : Int) (hn : n ≤ 64) (h : fitsB r n = true) : inRB r k = decide (r.f ≤ k ∧ k < r.f + r.n) := by
  simp [fitsB] at h
  unfold inRB
  exact decide_eq_decide.2 (by omega)

theorem may_same (l : List Rg) (n : Int) : rmayB l n = mayB l n := by
  unfold rmayB mayB
  refine decide_eq_decide.2 ⟨?_, ?_⟩
  · rintro ⟨h1, h2, h4, hf, hk⟩
    refine ⟨h1, h2, h4, fun i hi => ⟨hf i hi, fun j hj => ?_⟩⟩
    have hfi := hf i hi
    have hfj := hf j (by omega)
    have hm := fun k => in_fits (l.getD i Rg.zero) n k h2 hfi
    have hm' := fun k => in_fits (l.getD j Rg.zero) n k h2 hfj
    simp [fitsB] at hfi hfj
    cases hmt : meetB (l.getD i Rg.zero) (l.getD j Rg.zero)
    · rfl
    · exfalso
      simp [meetB] at hmt
      have := hk (max (l.getD i Rg.zero).f (l.getD j Rg.zero).f).toNat (by simp only [List.getD_eq_getElem?_getD] at *; omega)
      have hx := (filter_one l (rokB · ((max (l.getD i Rg.zero).f (l.getD j Rg.zero).f).toNat : Int) false)).1 this i j hj hi
      simp only [rok_false, hm, hm'] at hx
      refine hx ?_ ?_
      · rw [decide_eq_true]; simp only [List.getD_eq_getElem?_getD] at *; omega
      · rw [decide_eq_true]; simp only [List.getD_eq_getElem?_getD] at *; omega
  · rintro ⟨h1, h2, h4, hg⟩
    refine ⟨h1, h2, h4, fun i hi => (hg i hi).1, fun k hk => ?_⟩
    refine (filter_one l _).2 (fun i j hji hi hpi hpj => ?_)
    have hfi := (hg i hi).1
    have hfj := (hg j (by omega)).1
    have hmt := (hg i hi).2 j hji
    rw [rok_false, in_fits _ n _ h2 hfi] at hpi
    rw [rok_false, in_fits _ n _ h2 hfj] at hpj
    simp [meetB] at hmt
    simp at hpi hpj
    omega
end Go.Proofs.Ytfdoejdnhogepaa
