/-
  What slices.Grow makes of nil, and slices.Concat of three lists of those who wait.
-/
import Derived.Test.YtgnjnhfimagbpaaVLib
import Derived.Lib.AppendZerosOnto
namespace Go.Proofs.Ytgnjnhfimagbpaa
open Go.RowKit
set_option linter.unusedVariables false

set_option maxRecDepth 100000 in
set_option maxHeartbeats 800000 in
theorem grow_nil (n : Nat) (hn : n ≤ 900000) (w : World) :
    Calls Try.prog 30 #[.slice none 0 0, .int .i64 n] w fun e w' => ∃ u, e = .returned u ∧ OWt w' w.heap.size u [] ∧ Below w.heap.size w w' := by
  by_cases h0 : n = 0
  · subst h0
    go_enter Try.func30, Try.ntmps30
    go_wp2
    go_ret
    exact ⟨_, rfl, OWt.nil _ _, Below.refl _ _⟩
  · obtain ⟨i0, hi, hz0, hz1, hz2⟩ := info_parts Try.infoOWt
    have hrz : ∀ ty, (Builtin.append_ #[22, 3] ty #[.slice none 0 0, .int .i64 (n : Int)]).run Try.prog w =
        .ok (.slice (some ⟨w.heap.size, 0, none⟩) (0 + n) (grownCap w (0 + n) 0 26)) (w.drew.alloc (.cells (#[] ++ Builtin.zeroCells (Value.agg Wt.zero.cells.toArray).cells n ++ Builtin.zeroCells (Value.agg Wt.zero.cells.toArray).cells (grownCap w (0 + n) 0 26 - (0 + n))) 26)) := fun ty =>
      Lib.run_append_grow_zeros w 22 3 ty 26 i0 (.agg Wt.zero.cells.toArray) .i64 .i64 Try.underlying22 Try.underlying3 hi hz0 none 0 0 [] (run_firstCells_none _ i0.size 0 0 0) n (by omega) (by rw [hz1]; omega) (by omega) (by omega) (by rw [hz2]; omega) (growslice_fits (by omega) (by rw [hz2]; omega))
    obtain ⟨G, eG⟩ : ∃ G, grownCap w (0 + n) 0 26 = G := ⟨_, rfl⟩
    have hG : n ≤ grownCap w (0 + n) 0 26 := by have := grownCap_ge w (0 + n) 0 26; omega
    have hM : grownCap w (0 + n) 0 26 ≤ maxLen := grownCap_le_maxLen w (0 + n) 0 26 (by unfold maxLen; omega)
    rw [eG] at hrz hG hM
    clear eG
    have hsz : (#[] ++ Builtin.zeroCells (Value.agg Wt.zero.cells.toArray).cells n ++ Builtin.zeroCells (Value.agg Wt.zero.cells.toArray).cells (G - (0 + n)) : Array Value).size = G * 3 := by
      simp only [Array.size_append, size_zeroCells, show ((Value.agg Wt.zero.cells.toArray).cells).size = 3 from rfl]
      simp
      omega
    generalize (#[] ++ Builtin.zeroCells (Value.agg Wt.zero.cells.toArray).cells n ++ Builtin.zeroCells (Value.agg Wt.zero.cells.toArray).cells (G - (0 + n)) : Array Value) = cur at *
    have HO := hid (show OWt (w.drew.alloc (.cells cur 26)) w.heap.size (.slice (some ⟨w.heap.size, 0, none⟩) 0 G) [] from World.ownsRow_made w.drew cur G (Nat.le_refl _) hM hsz)
    have HB := hid (show Below w.heap.size w (w.drew.alloc (.cells cur 26)) from (Below.refl _ _).drew.alloc (Nat.le_refl _) _)
    have hw1 : wrap64 ((0 : Int) - 0) = 0 := by unfold wrap64; omega
    have hw2 : wrap64 ((n : Int) - 0) = (n : Int) := by unfold wrap64; omega
    have hpos : (0 : Int) < n := by omega
    unfold maxLen at hM
    clear hsz
    go_enter Try.func30, Try.ntmps30
    go_wp2_with (at_builtin; refine Lib.wpList_append_run _ rfl _ _ _ _ rfl _ _ rfl rfl _ _ (hrz _) ?_)
    go_ret
    exact ⟨_, rfl, HO.out, HB.out⟩

theorem OWt.app {w : World} {base : Nat} {v : Value} {l1 l2 : List Wt} (h : w.ownsRow base 26 3 v (l1.length + l2.length) ((l1.map Wt.cells).flatten ++ (l2.map Wt.cells).flatten)) : OWt w base v (l1 ++ l2) := by
  unfold OWt; simpa using h

/-- The sum and the list so far, in the two loops. -/
def SumAt (a b c : Nat) (k : Nat) : Nat := if k = 0 then 0 else if k = 1 then a else if k = 2 then a + b else a + b + c
def PreAt (a b c : List Wt) (k : Nat) : List Wt := if k = 0 then [] else if k = 1 then a else if k = 2 then a ++ b else a ++ b ++ c

/-- A list of lists, of which each is one that is read. -/
structure Three (w : World) (g : Nat) (a b c : List Wt) : Prop where
  lt : g < w.heap.size
  sees : ∀ k, k < 3 → ∃ v, w.cell? ⟨g, k, none⟩ = some v ∧ SeesWt w v (if k = 0 then a else if k = 1 then b else c)
theorem Three.of {w : World} {g : Nat} {va vb vc : Value} {a b c : List Wt} (hg : BoxAt w g 22 #[va, vb, vc]) (ha : SeesWt w va a) (hb : SeesWt w vb b) (hc : SeesWt w vc c) : Three w g a b c :=
  ⟨hg.lt, fun k hk => match k, hk with
    | 0, _ => ⟨va, hg.cell 0, ha⟩
    | 1, _ => ⟨vb, hg.cell 1, hb⟩
    | 2, _ => ⟨vc, hg.cell 2, hc⟩⟩
theorem sum_next (a b c : List Wt) (k : Nat) (hk : k < 3) : SumAt a.length b.length c.length (k + 1) = SumAt a.length b.length c.length k + (if k = 0 then a else if k = 1 then b else c).length := by
  match k, hk with
  | 0, _ => simp [SumAt]
  | 1, _ => simp [SumAt]
  | 2, _ => simp [SumAt]
theorem pre_next (a b c : List Wt) (k : Nat) (hk : k < 3) : PreAt a b c (k + 1) = PreAt a b c k ++ (if k = 0 then a else if k = 1 then b else c) := by
  match k, hk with
  | 0, _ => simp [PreAt]
  | 1, _ => simp [PreAt]
  | 2, _ => simp [PreAt]
theorem sum_le (a b c k : Nat) : SumAt a b c k ≤ a + b + c := by
  unfold SumAt; repeat (first | omega | split)
theorem pre_len (a b c : List Wt) (k : Nat) : (PreAt a b c k).length = SumAt a.length b.length c.length k := by
  unfold PreAt SumAt; split
  · rfl
  · split
    · rfl
    · split <;> simp <;> omega
  
set_option maxRecDepth 100000 in
set_option maxHeartbeats 1600000 in
theorem concat_any {g : Nat} {a b c : List Wt} {w : World} (hg : Three w g a b c) (hlen : a.length + b.length + c.length ≤ 900000) :
    Calls Try.prog 29 #[.slice (some ⟨g, 0, none⟩) 3 3] w fun e w' => ∃ u, e = .returned u ∧ OWt w' w.heap.size u (a ++ b ++ c) ∧ Below w.heap.size w w' := by
  have HT := hid hg.sees
  have HLT := hid hg.lt
  have HL := hid hlen
  clear hg hlen
  go_enter Try.func29, Try.ntmps29
  go_wp2
  go_loopw [3, 11] (fun s i wc => ∃ k : Nat, k ≤ 3 ∧ i = .int .i64 k ∧ s = .int .i64 (SumAt a.length b.length c.length k) ∧ Below w.heap.size w wc) (fun _ i _ => 3 - (intOf i).toNat)
  case atStart => exact ⟨0, by omega, rfl, rfl, Below.refl _ _⟩
  case round =>
    obtain ⟨k, hk, rfl, rfl, hbel⟩ := hrel
    by_cases hlt : k < 3
    · obtain ⟨v, hcell, hsee⟩ := HT.out k hlt
      have HN := hid (sum_next a b c k hlt)
      have hm1 := sum_le a.length b.length c.length k
      have hm2 := sum_le a.length b.length c.length (k + 1)
      have HLL := HL.out
      obtain ⟨al, cl, rfl, hl1, hl2, _⟩ := hsee.form
      clear hsee
      replace hcell := (hbel.cell (by exact HLT.out)).trans hcell
      generalize (if k = 0 then a else if k = 1 then b else c).length = n at *
      have hw : wrap64 ((SumAt a.length b.length c.length k : Int) + (n : Int)) = ((SumAt a.length b.length c.length k + n : Nat) : Int) := by have := HN.out; unfold wrap64; omega
      have hw0 : ¬ (((SumAt a.length b.length c.length k + n : Nat) : Int) < 0) := by omega
      obtain ⟨S, hS⟩ : ∃ S, SumAt a.length b.length c.length k = S := ⟨_, rfl⟩
      have HS := hid hS
      rw [hS] at hw hw0 hm1
      simp only [hS]
      clear hS hm1 hm2 HLL hl1 hl2
      go_wp2
      go_roundw
      case rel => exact ⟨k + 1, by omega, by go_num, by rw [HN.out, HS.out, hw], hbel⟩
      case measure => simp [intOf]; omega
    · have hk3 : k = 3 := by omega
      subst hk3
      have hS3 : (SumAt a.length b.length c.length 3 : Int) = ((a.length + b.length + c.length : Nat) : Int) := rfl
      simp only [hS3]
      have HM := HL.out
      have HA := hid (show ∀ n : Nat, n = a.length + b.length + c.length → n ≤ 900000 from fun n hn => by omega)
      obtain ⟨n, hn⟩ : ∃ n : Nat, n = a.length + b.length + c.length := ⟨_, rfl⟩
      rw [← hn]
      have hn9 := HA.out n hn
      clear HM HA hS3 hn hlt hk
      go_wp2_with fail
      refine (grow_nil n hn9 _).mono ?_
      rintro e w2 ⟨u2, rfl, ho2, hb2⟩
      have HO := hid (ho2.mono hbel.size)
      have hb3 := hbel.trans (hb2.mono hbel.size)
      clear hbel hb2 ho2 hn9
      have HB3 := hid hb3
      clear hb3
      go_wp2
      go_loopw [6, 27] (fun s i wc => ∃ k : Nat, k ≤ 3 ∧ i = .int .i64 k ∧ OWt wc w.heap.size s (PreAt a b c k) ∧ Below w.heap.size w wc) (fun _ i _ => 3 - (intOf i).toNat)
      case atStart => exact ⟨0, by omega, rfl, HO.out, HB3.out⟩
      case round =>
        rename_i W3
        obtain ⟨k, hk, rfl, hown, hbel⟩ := hrel
        have HO := hid hown
        clear hown
        by_cases hlt : k < 3
        · obtain ⟨v, hcell, hsee⟩ := HT.out k hlt
          have HN := hid (pre_next a b c k hlt)
          have HSN := hid (sum_next a b c k hlt)
          have HS2 := hid (sum_le a.length b.length c.length (k + 1))
          have HPL := hid (pre_len a b c k)
          replace hcell := (hbel.cell (by exact HLT.out)).trans hcell
          have HSE := hid (hsee.below hbel)
          have HBL := hid hbel
          clear hsee hbel
          generalize (if k = 0 then a else if k = 1 then b else c) = part at *
          go_wp2_with (at_builtin; refine app_row 26 22 3 24 _ Try.underlying22 Try.infoOWt rfl (by decide) (by decide) rfl _ _ rfl w.heap.size _ (PreAt a b c k).length _ rfl HO.out _ (part.map Wt.cells) rfl HSE.out (lensWt part) (oneWt part) ?c1 ?c2 ?_)
          case c1 => have := HSN.out; have := HS2.out; have := HPL.out; have := HL.out; simp; omega
          case c2 => exact HBL.out.size
          intro v' w2 hown2 hgrow hb
          have HO2 := hid (OWt.app (by simpa using hown2) : OWt w2 w.heap.size v' (PreAt a b c k ++ part))
          have HB2 := hid (HBL.out.trans hb)
          clear hown2 hgrow hb hcell
          go_wp2
          go_roundw
          case rel => exact ⟨k + 1, by omega, by go_num, by rw [HN.out]; exact HO2.out, HB2.out⟩
          case measure => simp [intOf]; omega
        · have hk3 : k = 3 := by omega
          subst hk3
          have HB := hid hbel
          clear hbel
          go_wp2
          go_ret
          exact ⟨_, rfl, HO.out, HB.out⟩
end Go.Proofs.Ytgnjnhfimagbpaa
