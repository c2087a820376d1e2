/-
  What mem.Load, mem.Store (and slices.Clone of words) return, whatever memory and regions they are given, and that nothing that was there is written.
-/
import Derived.Test.YtedldckijblnhaaDoorMTouch
namespace Go.Proofs.YtedldckijblnhaaDoor
open Go.RowKit
set_option linter.unusedVariables false

theorem Tryd.infoI : (Tryd.prog.info? 3).map (fun i => (i.zero, i.size, i.bytes)) = some (some (.int .i64 0), 1, 8) := by kernel_rfl

theorem touchE_or (n : Nat) (l : List Rg) (k : Int) (q : Bool) : touchE n l k q = 0 ∨ touchE n l k q = 4 ∨ touchE n l k q = 6 := by
  unfold touchE; split
  · simp
  · split <;> simp
theorem touchE_zero {n : Nat} {l : List Rg} {k : Int} {q : Bool} (h : touchE n l k q = 0) : 0 ≤ k ∧ k < n := by
  unfold touchE at h
  split at h
  · simp at h
  · omega

def loadV (m : List Int) (l : List Rg) (k : Int) : Int := if touchE m.length l k false = 0 then m.getD k.toNat 0 else 0
def storeL (m : List Int) (l : List Rg) (k x : Int) : List Int := if touchE m.length l k true = 0 then m.set k.toNat x else []

set_option maxRecDepth 100000 in
set_option maxHeartbeats 400000 in
theorem load_any (vm vl : Value) (m : List Int) (l : List Rg) (k : Int) (w : World) (hm : Sees w .i64 vm m) (hv : SeesR w vl l) (hl : ∀ r ∈ l, r.fit) (hk : -9223372036854775808 ≤ k ∧ k ≤ 9223372036854775807) :
    Calls Tryd.prog 17 #[vm, vl, .int .i64 k] w fun e w' => e = .returned (.tuple #[.int .i64 (loadV m l k), .int .i64 (touchE m.length l k false)]) ∧ Below w.heap.size w w' := by
  have hm' := hm
  obtain ⟨am, cm, rfl, hm1, hm2, hmc⟩ := hm.form
  unfold maxLen at hm2
  have HR := hid (refused_any _ vl m l k false w hm hv hl hk)
  have HT := hid (touchE_or m.length l k false)
  have HZ := hid (@touchE_zero m.length l k false)
  have HV := hid (show loadV m l k = if touchE m.length l k false = 0 then m.getD k.toNat 0 else 0 from rfl)
  have HC := hid hmc
  clear hm hm' hv hl hmc
  generalize touchE m.length l k false = t at *
  generalize loadV m l k = lv at *
  go_enter Tryd.func17, Tryd.ntmps17
  go_wp2_with fail
  refine (HR.out).mono ?_
  rintro e w1 ⟨rfl, hb1⟩
  go_wp2_with fail
  refine (number_any t HT.out _).mono ?_
  rintro e w2 ⟨rfl, rfl⟩
  by_cases ht : t = 0
  · subst ht
    obtain ⟨h0, h1⟩ := HZ.out rfl
    obtain ⟨j, rfl⟩ := Int.eq_ofNat_of_zero_le h0
    obtain ⟨b, off, rfl, hbw, hcell⟩ := HC.out (by omega)
    have hcx := (hb1.cell (by exact hbw)).trans (hcell j (by omega))
    have hlv : lv = m.getD j 0 := by rw [HV.out, if_pos rfl]; simp
    rw [← hlv] at hcx
    clear hcell HC HR HV HT HZ hlv
    go_wp2
    go_ret2
    exact ⟨rfl, hb1⟩
  · have htb : (t != 0) = true := by simp [ht]
    have hlv : lv = 0 := by rw [HV.out, if_neg ht]
    subst hlv
    clear HC HR HV HZ
    go_wp2
    go_ret2
    exact ⟨rfl, hb1⟩

set_option maxRecDepth 100000 in
set_option maxHeartbeats 400000 in
theorem clone_any (vm : Value) (m : List Int) (w : World) (hm : Sees w .i64 vm m) (h0 : 0 < m.length) (hlen : m.length ≤ 100000) :
    Calls Tryd.prog 19 #[vm] w fun e w' => ∃ u, e = .returned u ∧ w'.ownsRow w.heap.size 3 1 u m.length (m.map (Value.int .i64)) ∧ Below w.heap.size w w' := by
  obtain ⟨i0, hi, hz0, hz1, hz2⟩ := info_parts Tryd.infoI
  have hs : Sees (w.alloc (.cells #[] 3)) .i64 vm m := hm.below ((Below.refl _ _).alloc (Nat.le_refl _) _)
  obtain ⟨am, cm, rfl, hm1, hm2, hmc⟩ := hm.form
  obtain ⟨b, off, rfl, hbw, hcell⟩ := hmc h0
  clear hmc hcell hm
  have hown : (w.alloc (.cells #[] 3)).ownsRow w.heap.size 3 1 (.slice (some ⟨w.heap.size, 0, none⟩) 0 0) 0 [] := World.ownsRow_made w #[] 0 (Nat.le_refl _) (by decide) rfl
  have hnil := fun (w : World) (a : Option Addr) (l c : Nat) => Lib.run_eql_slice_nil (P := Tryd.prog) w 26 3 a l c 0 0 Tryd.underlying26
  go_enter Tryd.func19, Tryd.ntmps19
  go_wp2_with (at_builtin; refine wpList_append_sees rfl _ _ 26 rfl w.heap.size 3 i0 (.int .i64 0) 8 Tryd.underlying26 hi hz0 hz1 hz2 rfl .i64 _ _ _ rfl hown _ m rfl hs ?c1 ?c2 ?c3 ?_)
  case c1 => unfold maxLen; omega
  case c2 => omega
  case c3 => simp
  intro v' w2 hown2 hgrow
  have hbel : Below w.heap.size w w2 := ((Below.refl _ _).alloc (Nat.le_refl _) _).grown hgrow (by simp) (fun k hk => (hown.lt k hk).1)
  have HO := hid (show w2.ownsRow w.heap.size 3 1 v' m.length (m.map (Value.int .i64)) by simpa using hown2)
  clear hown2 hown hs hgrow
  go_wp2
  go_ret
  exact ⟨_, rfl, HO.out, hbel⟩

/-- The form of a row that is owned and not empty. -/
theorem owns_form {w : World} {base : Nat} {e : TypeId} {size : Nat} {v : Value} {n : Nat} {xs : List Value} (h : w.ownsRow base e size v n xs) (hn : 0 < n) :
    ∃ g cap, v = .slice (some ⟨g, 0, none⟩) n cap ∧ base ≤ g ∧ g < w.heap.size ∧ n ≤ cap ∧ cap ≤ maxLen := by
  rcases h.2 with ⟨_, h0⟩ | ⟨g, cap, cur, hv, hg, hh, hc, hm, _, _⟩
  · omega
  · refine ⟨g, cap, hv, hg, ?_, hc, hm⟩
    rcases Nat.lt_or_ge g w.heap.size with h | h
    · exact h
    · simp [Array.getElem?_eq_none h] at hh

set_option maxRecDepth 100000 in
set_option maxHeartbeats 400000 in
theorem store_any (vm vl : Value) (m : List Int) (l : List Rg) (k x : Int) (w : World) (hm : Sees w .i64 vm m) (hv : SeesR w vl l) (hl : ∀ r ∈ l, r.fit) (hk : -9223372036854775808 ≤ k ∧ k ≤ 9223372036854775807) (hlen : m.length ≤ 100000) :
    Calls Tryd.prog 16 #[vm, vl, .int .i64 k, .int .i64 x] w fun e w' => ∃ u, e = .returned (.tuple #[u, .int .i64 (touchE m.length l k true)]) ∧
      w'.ownsRow w.heap.size 3 1 u (storeL m l k x).length ((storeL m l k x).map (Value.int .i64)) ∧ Below w.heap.size w w' := by
  have hm' := hm
  obtain ⟨am, cm, rfl, hm1, hm2, hmc⟩ := hm.form
  unfold maxLen at hm2
  have HR := hid (refused_any _ vl m l k true w hm hv hl hk)
  have HT := hid (touchE_or m.length l k true)
  have HZ := hid (@touchE_zero m.length l k true)
  have HV := hid (show storeL m l k x = if touchE m.length l k true = 0 then m.set k.toNat x else [] from rfl)
  clear hm hv hl hmc
  generalize touchE m.length l k true = t at *
  generalize storeL m l k x = sl at *
  have HM := hid hm'
  clear hm'
  go_enter Tryd.func16, Tryd.ntmps16
  go_wp2_with fail
  refine (HR.out).mono ?_
  rintro e w1 ⟨rfl, hb1⟩
  go_wp2_with fail
  refine (number_any t HT.out _).mono ?_
  rintro e w2 ⟨rfl, rfl⟩
  by_cases ht : t = 0
  · subst ht
    obtain ⟨h0, h1⟩ := HZ.out rfl
    obtain ⟨j, rfl⟩ := Int.eq_ofNat_of_zero_le h0
    have hlv : sl = m.set j x := by rw [HV.out, if_pos rfl]; simp
    have HSL := hid hlv
    clear HR HV HT HZ hlv
    go_wp2_with fail
    refine (clone_any _ m _ (HM.out.below hb1) (by omega) hlen).mono ?_
    rintro e w3 ⟨u, rfl, hown, hb3⟩
    obtain ⟨g, cap, rfl, hg1, hg2, hg3, hg4⟩ := owns_form hown (by omega)
    unfold maxLen at hg4
    have hcx := hown.cellAt j (by omega)
    rw [List.getElem?_map, List.getElem?_eq_getElem (show j < m.length by omega), Option.map_some] at hcx
    have hfz := hown.frozenAt j
    have HS := hid (hown.stored j (.int .i64 x)).1
    clear hown
    go_wp2
    go_ret2
    refine ⟨_, rfl, ?_, (hb1.trans (hb3.mono hb1.size)).setCell (by have := hb1.size; simp; omega) _⟩
    have h := HS.out
    rw [HSL.out, List.map_set, List.length_set]
    obtain ⟨ha, hb⟩ := h
    refine ⟨ha, ?_⟩
    rcases hb with hb | ⟨g', cap', cur, hv, hbase, hrest⟩
    · exact .inl hb
    · exact .inr ⟨g', cap', cur, hv, Nat.le_trans hb1.size hbase, hrest⟩
  · have htb : (t != 0) = true := by simp [ht]
    have hlv : sl = [] := by rw [HV.out, if_neg ht]
    subst hlv
    clear HR HV HZ
    go_wp2
    go_ret2
    exact ⟨_, rfl, World.ownsRow_nil _ _ _ _, hb1⟩
end Go.Proofs.YtedldckijblnhaaDoor
