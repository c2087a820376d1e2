/-
  What word.PutAll and the document's own PutAll return, whatever numbers they are given (at most 100000), and that nothing that was there is written.
-/
import Derived.Test.YtfdoejdnhogepaaWPut
namespace Go.Proofs.Ytfdoejdnhogepaa
open Go.RowKit
set_option linter.unusedVariables false

def paB (l : List Int) : List Int := if allT l then encAll l else []
def paE (l : List Int) : Int := if allT l then 0 else 1

theorem enc_len (n : Nat) : (enc n).length ≤ 7 := (encF_len 6 n).2
theorem encAll_len (l : List Int) : (encAll l).length ≤ 7 * l.length := by
  induction l with
  | nil => simp [encAll]
  | cons a l ih =>
    have : encAll (a :: l) = enc a.toNat ++ encAll l := by simp [encAll]
    rw [this, List.length_append, List.length_cons]
    have := enc_len a.toNat
    omega
theorem encAll_append (a b : List Int) : encAll (a ++ b) = encAll a ++ encAll b := by simp [encAll]
theorem allT_append (a b : List Int) : allT (a ++ b) = (allT a && allT b) := by simp [allT]
theorem take_snoc (l : List Int) (k : Nat) (h : k < l.length) : l.take (k + 1) = l.take k ++ [l.getD k 0] := by
  rw [List.take_succ_eq_append_getElem h]; simp [List.getD, List.getElem?_eq_getElem h]
theorem encAll_snoc (l : List Int) (k : Nat) (h : k < l.length) : encAll (l.take (k + 1)) = encAll (l.take k) ++ enc (l.getD k 0).toNat := by
  rw [take_snoc l k h, encAll_append]; simp [encAll]
theorem allT_snoc (l : List Int) (k : Nat) (h : k < l.length) : allT (l.take (k + 1)) = (allT (l.take k) && isT (l.getD k 0)) := by
  rw [take_snoc l k h]; simp [allT]
theorem allT_not (l : List Int) (k : Nat) (h : k < l.length) (hn : isT (l.getD k 0) = false) : allT l = false := by
  simp only [allT, List.all_eq_false]
  refine ⟨l[k], List.getElem_mem h, ?_⟩
  rw [show l[k] = l.getD k 0 by simp [List.getD, List.getElem?_eq_getElem h], hn]; simp

set_option maxRecDepth 100000 in
set_option maxHeartbeats 400000 in
theorem putAll_any (v : Value) (l : List Int) (w : World) (hv : Sees w .i64 v l) (hl : l.length ≤ 100000) :
    Calls Try.prog 32 #[v] w fun e w' => ∃ u, e = .returned (.tuple #[u, .int .i64 (paE l)]) ∧
      w'.ownsRow w.heap.size 5 1 u (paB l).length ((paB l).map (Value.int .u8)) ∧ Below w.heap.size w w' := by
  have hnot := Try.hnot
  obtain ⟨a, cap, rfl, hc1, hc2, hcells⟩ := hv.form
  unfold maxLen at hc2
  have HC := hid (hcells)
  clear hcells hv
  go_enter Try.func32, Try.ntmps32
  go_wp2
  go_loopw [4, 9] (fun s i wr => ∃ k : Nat, k ≤ l.length ∧ i = .int .i64 k ∧ allT (l.take k) = true ∧
      wr.ownsRow w.heap.size 5 1 s (encAll (l.take k)).length ((encAll (l.take k)).map (Value.int .u8)) ∧ Below w.heap.size w wr) (fun _ i _ => l.length - (intOf i).toNat)
  case atStart => exact ⟨0, by omega, rfl, rfl, World.ownsRow_nil _ _ _ _, Below.refl _ _⟩
  case round =>
    obtain ⟨k, hk, rfl, hall, hown, hbel⟩ := hrel
    have HA := hid (hall)
    clear hall
    have hlen := encAll_len (l.take k)
    have hlt : (l.take k).length ≤ k := List.length_take_le _ _
    by_cases hlt : k < l.length
    · obtain ⟨b, off, rfl, hbw, hcell⟩ := HC.out (by omega)
      have hcx : wr.cell? ⟨b, off + k, none⟩ = some (.int .i64 (l.getD k 0)) := (hbel.cell (by exact hbw)).trans (hcell k hlt)
      have HS := hid (encAll_snoc l k hlt)
      have HT := hid (allT_snoc l k hlt)
      have HN := hid (allT_not l k hlt)
      clear hcell HC
      generalize l.getD k 0 = x at *
      go_wp2_with fail
      refine (isTables_any _ _).mono ?_
      rintro e w' ⟨rfl, rfl⟩
      by_cases ht : isT x = true
      · have hb := ht
        simp [isT] at hb
        go_wp2_with fail
        refine (digits_any _ _ _ _ _ _ hb.1 hb.2 (by omega) hown (by exact hbel.size)).mono ?_
        rintro e w1 ⟨v, rfl, hown1, hbel1⟩
        rw [← HS.out] at hown1
        have HO := hid (hown1)
        clear hown1 hown
        go_wp2
        go_roundw
        case rel => exact ⟨k + 1, by omega, by go_num, by rw [HT.out, HA.out, ht]; rfl, HO.out, hbel.trans hbel1⟩
        case measure => simp [intOf]; omega
      · have ht' : isT x = false := by simpa using ht
        go_wp2
        go_ret2
        exact ⟨_, by rw [paE, HN.out ht']; rfl, by simpa [paB, HN.out ht'] using World.ownsRow_nil _ _ _ _, hbel⟩
    · have hkl : l.take k = l := List.take_of_length_le (by omega)
      have hp1 : paE l = 0 := by have := HA.out; rw [hkl] at this; simp [paE, this]
      have hp2 : paB l = encAll l := by have := HA.out; rw [hkl] at this; simp [paB, this]
      rw [hkl, ← hp2] at hown
      have HO := hid (hown)
      have HP := hid (hp1)
      clear hown hp1 hp2 hkl
      go_wp2
      go_ret2
      exact ⟨_, by rw [HP.out]; rfl, HO.out, hbel⟩

theorem ints_cell (k : IntKind) (xs : List Int) : ∀ u ∈ xs.map (Value.int k), u.oneCell' = true := ints_oneCell k xs

/-- The cells of a slice that is seen, as the law on append asks for them. -/
theorem seen_cells {w : World} {k : IntKind} {b off : Nat} {xs : List Int} (hc : ∀ i, i < xs.length → w.cell? ⟨b, off + i, none⟩ = some (.int k (xs.getD i 0))) :
    ∀ j u, (xs.map (Value.int k))[j]? = some u → w.cell? ((⟨b, off, none⟩ : Addr).add j) = some u := by
  intro j u hj
  rcases Nat.lt_or_ge j xs.length with h | h
  · simp [List.getElem?_map, List.getElem?_eq_getElem h] at hj
    subst hj
    rw [add_none, hc j h]; simp [List.getD, List.getElem?_eq_getElem h]
  · simp [List.getElem?_eq_none (show (xs.map (Value.int k)).length ≤ j by simpa using h)] at hj

set_option maxRecDepth 100000 in
set_option maxHeartbeats 400000 in
theorem rputAll_any (v : Value) (l : List Int) (w : World) (hv : Sees w .i64 v l) (hl : l.length ≤ 100000) :
    Calls Try.prog 36 #[v] w fun e w' => ∃ u, e = .returned (.tuple #[u, .int .i64 (paE l)]) ∧
      w'.ownsRow w.heap.size 5 1 u (paB l).length ((paB l).map (Value.int .u8)) ∧ Below w.heap.size w w' := by
  obtain ⟨i0, hi, hz0, hz1, hz2⟩ := info_parts Try.infoU8
  obtain ⟨a, cap, rfl, hc1, hc2, hcells⟩ := hv.form
  unfold maxLen at hc2
  have HC := hid (hcells)
  clear hcells hv
  go_enter Try.func36, Try.ntmps36
  go_wp2
  go_loopw [4, 5] (fun s i wr => ∃ k : Nat, k ≤ l.length ∧ i = .int .i64 k ∧ allT (l.take k) = true ∧
      wr.ownsRow w.heap.size 5 1 s (encAll (l.take k)).length ((encAll (l.take k)).map (Value.int .u8)) ∧ Below w.heap.size w wr) (fun _ i _ => l.length - (intOf i).toNat)
  case atStart => exact ⟨0, by omega, rfl, rfl, World.ownsRow_nil _ _ _ _, Below.refl _ _⟩
  case round =>
    obtain ⟨k, hk, rfl, hall, hown, hbel⟩ := hrel
    have HA := hid (hall)
    clear hall
    have hlen := encAll_len (l.take k)
    have hlt : (l.take k).length ≤ k := List.length_take_le _ _
    by_cases hlt : k < l.length
    · obtain ⟨b, off, rfl, hbw, hcell⟩ := HC.out (by omega)
      have hcx : wr.cell? ⟨b, off + k, none⟩ = some (.int .i64 (l.getD k 0)) := (hbel.cell (by exact hbw)).trans (hcell k hlt)
      have HS := hid (encAll_snoc l k hlt)
      have HT := hid (allT_snoc l k hlt)
      have HN := hid (allT_not l k hlt)
      clear hcell HC
      generalize l.getD k 0 = x at *
      go_wp2_with fail
      refine (rput_any _ _).mono ?_
      rintro e w1 ⟨u, rfl, hown1, hbel1⟩
      by_cases ht : isT x = true
      · have hpe : putE x = 0 := by simp [putE, ht]
        have hpb : putB x = enc x.toNat := by simp [putB, ht]
        rw [hpe]
        rw [hpb] at hown1
        have hel := enc_len x.toNat
        have hep := (encF_len 6 x.toNat).1
        change 1 ≤ (enc x.toNat).length at hep
        obtain ⟨a1, c1, rfl, hd1, hd2, hcl⟩ := (Sees.of_owns hown1).form
        obtain ⟨b1, o1, rfl, hb1w, hcl⟩ := hcl (by omega)
        have hownk := owns_below hown hbel1
        clear hpe hpb hown1
        have hsz := hbel.size
        have hsz1 := hbel1.size
        generalize enc x.toNat = ex at *
        go_wp2_with (at_builtin; refine wpList_append_own _ rfl _ _ 30 rfl w.heap.size 5 i0 (.int .u8 0) 1 1 Try.underlying30 hi hz0 hz1 hz2 rfl (by decide) _ _ _ rfl hownk ⟨b1, o1, none⟩ _ _ (ex.map (Value.int .u8)) rfl (by simp) (seen_cells hcl) (ints_cell _ _) ?c3 ?c4 ?c5 ?_)
        case c3 => unfold maxLen; omega
        case c4 => omega
        case c5 => omega
        intro v' w2 hown2 hgrow _
        have hown3 : w2.ownsRow w.heap.size 5 1 v' (encAll (l.take (k + 1))).length ((encAll (l.take (k + 1))).map (Value.int .u8)) := by
          rw [HS.out]; simpa using hown2
        have hbel2 : Below w.heap.size w w2 := (hbel.trans (hbel1.mono hsz)).grown hgrow (by omega) (fun k hk => (hown.lt k hk).1)
        have HO := hid (hown3)
        clear hown3 hown2 hown hownk hgrow hcl
        go_wp2
        go_roundw
        case rel => exact ⟨k + 1, by omega, by go_num, by rw [HT.out, HA.out, ht]; rfl, HO.out, hbel2⟩
        case measure => simp [intOf]; omega
      · have ht' : isT x = false := by simpa using ht
        have hpe : putE x = 1 := by simp [putE, ht']
        rw [hpe]
        clear hown1
        go_wp2
        go_ret2
        exact ⟨_, by rw [paE, HN.out ht']; rfl, by simpa [paB, HN.out ht'] using World.ownsRow_nil _ _ _ _, hbel.trans (hbel1.mono hbel.size)⟩
    · have hkl : l.take k = l := List.take_of_length_le (by omega)
      have hp1 : paE l = 0 := by have := HA.out; rw [hkl] at this; simp [paE, this]
      have hp2 : paB l = encAll l := by have := HA.out; rw [hkl] at this; simp [paB, this]
      rw [hkl, ← hp2] at hown
      have HO := hid (hown)
      have HP := hid (hp1)
      clear hown hp1 hp2 hkl
      go_wp2
      go_ret2
      exact ⟨_, by rw [HP.out]; rfl, HO.out, hbel⟩
end Go.Proofs.Ytfdoejdnhogepaa
