/-
  What times' small functions answer: whether a tick has come, who goes on, who is late, whether somebody is there.
-/
import Derived.Test.YtdanfnbclbiidaaUKept
import Derived.Test.YtdanfnbclbiidaaUMath
namespace Go.Proofs.Ytdanfnbclbiidaa
open Go.RowKit
set_option linter.unusedVariables false

set_option maxRecDepth 100000 in
theorem came_any (t n : Int) (w : World) : Calls Try.prog 30 #[.int .i64 t, .int .i64 n] w fun e w' => e = .returned (.bool (decide (0 ≤ t ∧ t ≤ n))) ∧ w' = w := by
  go_enter Try.func30, Try.ntmps30
  by_cases h0 : 0 ≤ t
  · by_cases h1 : t ≤ n
    · rw [decide_eq_true (show 0 ≤ t ∧ t ≤ n from ⟨h0, h1⟩)]
      go_wp2
      go_ret
      exact ⟨rfl, rfl⟩
    · rw [decide_eq_false (show ¬ (0 ≤ t ∧ t ≤ n) from fun h => h1 h.2)]
      go_wp2
      go_ret
      exact ⟨rfl, rfl⟩
  · rw [decide_eq_false (show ¬ (0 ≤ t ∧ t ≤ n) from fun h => h0 h.1)]
    go_wp2
    go_ret
    exact ⟨rfl, rfl⟩

set_option maxRecDepth 100000 in
theorem uthere_Pc (a : Option Addr) (n c : Nat) (i : Int) (w : World) : Calls Try.prog 33 #[.slice a n c, .int .i64 i] w fun e w' => e = .returned (.bool (decide (0 ≤ i ∧ i < n))) ∧ w' = w := by
  go_enter Try.func33, Try.ntmps33
  by_cases h0 : 0 ≤ i
  · by_cases h1 : i < n
    · rw [decide_eq_true (show 0 ≤ i ∧ i < n from ⟨h0, h1⟩)]
      go_wp2
      go_ret
      exact ⟨rfl, rfl⟩
    · rw [decide_eq_false (show ¬ (0 ≤ i ∧ i < n) from fun h => h1 h.2)]
      go_wp2
      go_ret
      exact ⟨rfl, rfl⟩
  · rw [decide_eq_false (show ¬ (0 ≤ i ∧ i < n) from fun h => h0 h.1)]
    go_wp2
    go_ret
    exact ⟨rfl, rfl⟩

set_option maxRecDepth 100000 in
theorem uthere_Px (a : Option Addr) (n c : Nat) (i : Int) (w : World) : Calls Try.prog 40 #[.slice a n c, .int .i64 i] w fun e w' => e = .returned (.bool (decide (0 ≤ i ∧ i < n))) ∧ w' = w := by
  go_enter Try.func40, Try.ntmps40
  by_cases h0 : 0 ≤ i
  · by_cases h1 : i < n
    · rw [decide_eq_true (show 0 ≤ i ∧ i < n from ⟨h0, h1⟩)]
      go_wp2
      go_ret
      exact ⟨rfl, rfl⟩
    · rw [decide_eq_false (show ¬ (0 ≤ i ∧ i < n) from fun h => h1 h.2)]
      go_wp2
      go_ret
      exact ⟨rfl, rfl⟩
  · rw [decide_eq_false (show ¬ (0 ≤ i ∧ i < n) from fun h => h0 h.1)]
    go_wp2
    go_ret
    exact ⟨rfl, rfl⟩

set_option maxRecDepth 100000 in
set_option maxHeartbeats 1600000 in
theorem over_any (x : Px) (now : Int) (N : Nat) (w : World) (hN : BoxAt w N 3 #[.int .i64 now]) :
    Calls Try.prog 29 #[x.val, .pointer (some ⟨N, 0, none⟩)] w fun e w' => e = .returned (.bool (decide (overX now x))) ∧ Below w.heap.size w w' := by
  have NB := hid hN
  have hlt := hN.lt
  have HB := hid (Below.refl w.heap.size w)
  clear hN
  obtain ⟨B, hB⟩ : ∃ B, decide (overX now x) = B := ⟨_, rfl⟩
  rw [hB]
  go_enter Try.func29, Try.ntmps29
  by_cases hst : x.st = 2
  · have tst : (x.st == 2) = true := by simpa using hst
    have HE := hid (show decide (0 ≤ x.un ∧ x.un ≤ now) = B from by rw [← hB]; simp [overX, hst])
    clear hst hB
    go_wp2_with (first
      | (refine wpList_box rfl 57 (.tmp 0) rfl (Px.cells x).toArray rfl ?_
         intro v1 b h z
         have HB := hid (HB.out.trans (h.mono HB.out.size))
         have k0 : v1.cell? ⟨w.heap.size, 0, none⟩ = some (.int .i64 x.st) := (b.cell 0).trans rfl
         have k9 : v1.cell? ⟨w.heap.size, 9, none⟩ = some (.int .i64 x.un) := (b.cell 9).trans rfl
         have n0 : v1.cell? ⟨N, 0, none⟩ = some (.int .i64 now) := ((NB.out.belowAll h).cell 0).trans rfl
         clear b h z)
      | fail)
    refine (came_any x.un now v1).mono ?_
    rintro e v2 ⟨rfl, rfl⟩
    rw [HE.out]
    go_wp2
    go_ret
    exact ⟨rfl, HB.out⟩
  · have tst : (x.st == 2) = false := by simpa using hst
    obtain rfl : false = B := by rw [← hB]; exact (decide_eq_false (fun h => hst h.1)).symm
    clear hst hB
    go_wp2_with (first
      | (refine wpList_box rfl 57 (.tmp 0) rfl (Px.cells x).toArray rfl ?_
         intro v1 b h z
         have HB := hid (HB.out.trans (h.mono HB.out.size))
         have k0 : v1.cell? ⟨w.heap.size, 0, none⟩ = some (.int .i64 x.st) := (b.cell 0).trans rfl
         clear b h z)
      | fail)
    go_ret
    exact ⟨rfl, HB.out⟩

set_option maxRecDepth 100000 in
set_option maxHeartbeats 1600000 in
theorem late1_any (x : Px) (now : Int) (N : Nat) (w : World) (hN : BoxAt w N 3 #[.int .i64 now]) :
    Calls Try.prog 39 #[x.val, .pointer (some ⟨N, 0, none⟩)] w fun e w' => e = .returned (.bool (lateX now x)) ∧ Below w.heap.size w w' := by
  have NB := hid hN
  have hlt := hN.lt
  have HB := hid (Below.refl w.heap.size w)
  clear hN
  have HE := hid (show lateX now x = (decide (x.st ≠ 0) && (decide (x.st ≠ 2) || decide (x.ki ≠ 2)) && decide (0 ≤ x.du ∧ x.du ≤ now)) from by
    rw [Bool.eq_iff_iff, lateX_iff]
    simp only [Bool.and_eq_true, Bool.or_eq_true, decide_eq_true_eq]
    constructor
    · rintro ⟨h1, h2, h3, h4⟩
      by_cases hs : x.st = 2
      · exact ⟨⟨h1, .inr (fun hk => h2 ⟨hs, hk⟩)⟩, h3, h4⟩
      · exact ⟨⟨h1, .inl hs⟩, h3, h4⟩
    · rintro ⟨⟨h1, h2⟩, h3, h4⟩
      exact ⟨h1, fun hh => h2.elim (fun k => k hh.1) (fun k => k hh.2), h3, h4⟩)
  obtain ⟨B, hB⟩ : ∃ B, decide (0 ≤ x.du ∧ x.du ≤ now) = B := ⟨_, rfl⟩
  rw [HE.out, hB]
  have HD := hid hB
  clear HE hB
  go_enter Try.func39, Try.ntmps39
  by_cases h0 : x.st = 0
  · have t0 : (x.st != 0) = false := by simpa using h0
    have t2 : (x.st != 2) = true := by simp; omega
    rw [decide_eq_false (show ¬ x.st ≠ 0 from fun h => h h0), Bool.false_and, Bool.false_and]
    clear h0
    go_wp2_with (first
      | (refine wpList_box rfl 57 (.tmp 0) rfl (Px.cells x).toArray rfl ?_
         intro v1 b h z
         have HB := hid (HB.out.trans (h.mono HB.out.size))
         have k0 : v1.cell? ⟨w.heap.size, 0, none⟩ = some (.int .i64 x.st) := (b.cell 0).trans rfl
         clear b h z)
      | fail)
    go_ret
    exact ⟨rfl, HB.out⟩
  · have t0 : (x.st != 0) = true := by simpa using h0
    rw [decide_eq_true (show x.st ≠ 0 from h0), Bool.true_and]
    clear h0
    by_cases h2 : x.st = 2
    · have t2 : (x.st != 2) = false := by simpa using h2
      rw [decide_eq_false (show ¬ x.st ≠ 2 from fun h => h h2), Bool.false_or]
      clear h2
      by_cases h3 : x.ki = 2
      · have t3 : (x.ki != 2) = false := by simpa using h3
        rw [decide_eq_false (show ¬ x.ki ≠ 2 from fun h => h h3), Bool.false_and]
        clear h3
        go_wp2_with (first
          | (refine wpList_box rfl 57 (.tmp 0) rfl (Px.cells x).toArray rfl ?_
             intro v1 b h z
             have HB := hid (HB.out.trans (h.mono HB.out.size))
             have k0 : v1.cell? ⟨w.heap.size, 0, none⟩ = some (.int .i64 x.st) := (b.cell 0).trans rfl
             have k10 : v1.cell? ⟨w.heap.size, 10, none⟩ = some (.int .i64 x.ki) := (b.cell 10).trans rfl
             clear b h z)
          | fail)
        go_ret
        exact ⟨rfl, HB.out⟩
      · have t3 : (x.ki != 2) = true := by simpa using h3
        rw [decide_eq_true (show x.ki ≠ 2 from h3), Bool.true_and]
        clear h3
        go_wp2_with (first
          | (refine wpList_box rfl 57 (.tmp 0) rfl (Px.cells x).toArray rfl ?_
             intro v1 b h z
             have HB := hid (HB.out.trans (h.mono HB.out.size))
             have k0 : v1.cell? ⟨w.heap.size, 0, none⟩ = some (.int .i64 x.st) := (b.cell 0).trans rfl
             have k10 : v1.cell? ⟨w.heap.size, 10, none⟩ = some (.int .i64 x.ki) := (b.cell 10).trans rfl
             have k12 : v1.cell? ⟨w.heap.size, 12, none⟩ = some (.int .i64 x.du) := (b.cell 12).trans rfl
             have n0 : v1.cell? ⟨N, 0, none⟩ = some (.int .i64 now) := ((NB.out.belowAll h).cell 0).trans rfl
             clear b h z)
          | fail)
        refine (came_any x.du now v1).mono ?_
        rintro e v2 ⟨rfl, rfl⟩
        rw [HD.out]
        go_wp2
        go_ret
        exact ⟨rfl, HB.out⟩
    · have t2 : (x.st != 2) = true := by simpa using h2
      rw [decide_eq_true (show x.st ≠ 2 from h2), Bool.true_or, Bool.true_and]
      clear h2
      go_wp2_with (first
        | (refine wpList_box rfl 57 (.tmp 0) rfl (Px.cells x).toArray rfl ?_
           intro v1 b h z
           have HB := hid (HB.out.trans (h.mono HB.out.size))
           have k0 : v1.cell? ⟨w.heap.size, 0, none⟩ = some (.int .i64 x.st) := (b.cell 0).trans rfl
           have k12 : v1.cell? ⟨w.heap.size, 12, none⟩ = some (.int .i64 x.du) := (b.cell 12).trans rfl
           have n0 : v1.cell? ⟨N, 0, none⟩ = some (.int .i64 now) := ((NB.out.belowAll h).cell 0).trans rfl
           clear b h z)
        | fail)
      refine (came_any x.du now v1).mono ?_
      rintro e v2 ⟨rfl, rfl⟩
      rw [HD.out]
      go_wp2
      go_ret
      exact ⟨rfl, HB.out⟩

set_option maxRecDepth 100000 in
set_option maxHeartbeats 800000 in
theorem those_any (a : Option Addr) (n c : Nat) (f : Nat) (caps : Array Value) (w : World) :
    Calls Try.prog 31 #[.slice a n c, .func (.func f) #[] caps] w fun e w' => e = .returned (.func (.func 51) #[] #[.pointer (some ⟨w.heap.size, 0, none⟩), .pointer (some ⟨w.heap.size + 1, 0, none⟩)]) ∧
      BoxAt w' w.heap.size 29 #[.slice a n c] ∧ BoxAt w' (w.heap.size + 1) 81 #[.func (.func f) #[] caps] ∧ Below w.heap.size w w' := by
  have hmf : ∀ (fn : Fn) (first cap : Array Value) (w : World), (Instr.makeFunc fn first cap).run Try.prog w = .ok (.func fn first cap) w := fun _ _ _ _ => rfl
  go_enter Try.func31, Try.ntmps31
  go_wp2
  go_ret
  exact ⟨rfl, (BoxAt.new w _ _).alloc _, (by have h := BoxAt.new (w.alloc (.cells #[.slice a n c] 29)) 81 #[.func (.func f) #[] caps]; rw [World.size_alloc] at h; exact h), ((Below.refl _ _).alloc (Nat.le_refl _) _).alloc (by simp) _⟩
end Go.Proofs.Ytdanfnbclbiidaa
