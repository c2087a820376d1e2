/-
  What the document's own Load, Store and May return, whatever memory and regions they are given; that they are what the program returns, where there are few.
-/
import Derived.Test.YtedldckijblnhaaDoorMRef
namespace Go.Proofs.YtedldckijblnhaaDoor
open Go.RowKit
set_option linter.unusedVariables false

/-! ### What is the same -/

theorem in_has (r : Rg) (k : Int) (h : fewR r = true) : inB r k = hasB r k := by
  obtain ⟨f, n, q⟩ := r
  simp [fewR] at h
  unfold inB hasB
  exact decide_eq_decide.2 (by simp only; omega)
theorem many_zero (l : List Rg) (k : Int) (q : Bool) (h : l.all fewR = true) : (manyN l k q = 0) ↔ l.any (okB · k q) = false := by
  unfold manyN
  rw [List.length_eq_zero_iff, List.filter_eq_nil_iff, List.any_eq_false]
  rw [List.all_eq_true] at h
  constructor
  · intro h2 x hx; have := h2 x hx; rw [rokB, in_has x k (h x hx)] at this; exact this
  · intro h2 x hx; have := h2 x hx; rw [rokB, in_has x k (h x hx)]; exact this
theorem touch_same (n : Nat) (l : List Rg) (k : Int) (q : Bool) (h : l.all fewR = true) : rtouchE n l k q = touchE n l k q := by
  unfold rtouchE touchE
  by_cases h1 : k < 0 ∨ (n : Int) ≤ k
  · rw [if_pos h1, if_pos h1]
  · rw [if_neg h1, if_neg h1]
    by_cases h2 : manyN l k q = 0
    · rw [if_pos h2, (many_zero l k q h).1 h2]; simp
    · rw [if_neg h2]
      cases h3 : l.any (okB · k q)
      · exact absurd ((many_zero l k q h).2 h3) h2
      · simp

theorem rtouchE_zero {n : Nat} {l : List Rg} {k : Int} {q : Bool} (h : rtouchE n l k q = 0) : 0 ≤ k ∧ k < n := by
  unfold rtouchE at h
  split at h
  · simp at h
  · omega

def rloadV (m : List Int) (l : List Rg) (k : Int) : Int := if rtouchE m.length l k false = 0 then m.getD k.toNat 0 else 0
def rstoreL (m : List Int) (l : List Rg) (k x : Int) : List Int := if rtouchE m.length l k true = 0 then m.set k.toNat x else []

set_option maxRecDepth 100000 in
set_option maxHeartbeats 400000 in
theorem rload_any (vm vl : Value) (m : List Int) (l : List Rg) (k : Int) (w : World) (hm : Sees w .i64 vm m) (hv : SeesR w vl l) :
    Calls Tryd.prog 24 #[vm, vl, .int .i64 k] w fun e w' => e = .returned (.tuple #[.int .i64 (rloadV m l k), .int .i64 (rtouchE m.length l k false)]) ∧ Below w.heap.size w w' := by
  obtain ⟨am, cm, rfl, hm1, hm2, hmc⟩ := hm.form
  unfold maxLen at hm2
  have HR := hid (touch_any _ vl m l k false w hm hv)
  have HZ := hid (@rtouchE_zero m.length l k false)
  have HV := hid (show rloadV m l k = if rtouchE m.length l k false = 0 then m.getD k.toNat 0 else 0 from rfl)
  have HC := hid hmc
  clear hm hv hmc
  generalize rtouchE m.length l k false = t at *
  generalize rloadV m l k = lv at *
  go_enter Tryd.func24, Tryd.ntmps24
  go_wp2_with fail
  refine (HR.out).mono ?_
  rintro e w1 ⟨rfl, hb1⟩
  by_cases ht : t = 0
  · subst ht
    obtain ⟨h0, h1⟩ := HZ.out rfl
    obtain ⟨j, rfl⟩ := Int.eq_ofNat_of_zero_le h0
    obtain ⟨b, off, rfl, hbw, hcell⟩ := HC.out (by omega)
    have hcx := (hb1.cell (by exact hbw)).trans (hcell j (by omega))
    have hlv : lv = m.getD j 0 := by rw [HV.out, if_pos rfl]; simp
    rw [← hlv] at hcx
    clear hcell HC HR HV HZ hlv
    go_wp2
    go_ret2
    exact ⟨rfl, hb1⟩
  · have htb : (t != 0) = true := by simp [ht]
    have hlv : lv = 0 := by rw [HV.out, if_neg ht]
    subst hlv
    clear HC HR HV HZ
    go_wp2
    go_ret2
    exact ⟨rfl, hb1⟩

set_option maxRecDepth 100000 in
set_option maxHeartbeats 400000 in
theorem rstore_any (vm vl : Value) (m : List Int) (l : List Rg) (k x : Int) (w : World) (hm : Sees w .i64 vm m) (hv : SeesR w vl l) (hlen : m.length ≤ 100000) :
    Calls Tryd.prog 26 #[vm, vl, .int .i64 k, .int .i64 x] w fun e w' => ∃ u, e = .returned (.tuple #[u, .int .i64 (rtouchE m.length l k true)]) ∧
      w'.ownsRow w.heap.size 3 1 u (rstoreL m l k x).length ((rstoreL m l k x).map (Value.int .i64)) ∧ Below w.heap.size w w' := by
  obtain ⟨i0, hi, hz0, hz1, hz2⟩ := info_parts Tryd.infoI
  have hm' := hm
  obtain ⟨am, cm, rfl, hm1, hm2, hmc⟩ := hm.form
  unfold maxLen at hm2
  have HR := hid (touch_any _ vl m l k true w hm hv)
  have HZ := hid (@rtouchE_zero m.length l k true)
  have HV := hid (show rstoreL m l k x = if rtouchE m.length l k true = 0 then m.set k.toNat x else [] from rfl)
  clear hm hv hmc
  generalize rtouchE m.length l k true = t at *
  generalize rstoreL m l k x = sl at *
  have HM := hid hm'
  clear hm'
  go_enter Tryd.func26, Tryd.ntmps26
  go_wp2_with fail
  refine (HR.out).mono ?_
  rintro e w1 ⟨rfl, hb1⟩
  by_cases ht : t = 0
  · subst ht
    obtain ⟨h0, h1⟩ := HZ.out rfl
    obtain ⟨j, rfl⟩ := Int.eq_ofNat_of_zero_le h0
    have hlv : sl = m.set j x := by rw [HV.out, if_pos rfl]; simp
    have HSL := hid hlv
    have hs := HM.out.below hb1
    have hown0 : w1.ownsRow w1.heap.size 3 1 (.slice none 0 0) 0 [] := World.ownsRow_nil _ _ _ _
    clear HR HV HZ hlv
    go_wp2_with (at_builtin; refine wpList_append_sees rfl _ _ 26 rfl w1.heap.size 3 i0 (.int .i64 0) 8 Tryd.underlying26 hi hz0 hz1 hz2 rfl .i64 _ _ _ rfl hown0 _ m rfl hs ?c1 ?c2 ?c3 ?_)
    case c1 => unfold maxLen; omega
    case c2 => omega
    case c3 => simp
    intro v' w3 hown2 hgrow
    have hb3 : Below w1.heap.size w1 w3 := (Below.refl _ _).grown hgrow (by simp) (fun k hk => (hown0.lt k hk).1)
    have hown : w3.ownsRow w1.heap.size 3 1 v' m.length (m.map (Value.int .i64)) := by simpa using hown2
    obtain ⟨g, cap, rfl, hg1, hg2, hg3, hg4⟩ := owns_form hown (by omega)
    unfold maxLen at hg4
    have hcx := hown.cellAt j (by omega)
    rw [List.getElem?_map, List.getElem?_eq_getElem (show j < m.length by omega), Option.map_some] at hcx
    have hfz := hown.frozenAt j
    have HS := hid (hown.stored j (.int .i64 x)).1
    clear hown hown0 hown2 hs hgrow
    go_wp2
    go_ret2
    refine ⟨_, rfl, ?_, (hb1.trans (hb3.mono hb1.size)).setCell (by have := hb1.size; simp; omega) _⟩
    have h := HS.out
    rw [HSL.out, List.map_set, List.length_set]
    obtain ⟨ha, hb⟩ := h
    refine ⟨ha, ?_⟩
    rcases hb with hb | ⟨g', cap', cur, hv, hbase, hrest⟩
    · exact .inl hb
    · exact .inr ⟨g', cap', cur, hv, Nat.le_trans hb1.size hbase, hrest⟩
  · have htb : (t != 0) = true := by simp [ht]
    have hlv : sl = [] := by rw [HV.out, if_neg ht]
    subst hlv
    clear HR HV HZ
    go_wp2
    go_ret2
    exact ⟨_, rfl, World.ownsRow_nil _ _ _ _, hb1⟩

def rmayB (l : List Rg) (n : Int) : Bool := decide (1 ≤ n ∧ n ≤ 64 ∧ l.length ≤ 4 ∧ (∀ i, i < l.length → fitsB (l.getD i Rg.zero) n = true) ∧ ∀ k : Nat, k < n.toNat → manyN l k false ≤ 1)

end Go.Proofs.YtedldckijblnhaaDoor
