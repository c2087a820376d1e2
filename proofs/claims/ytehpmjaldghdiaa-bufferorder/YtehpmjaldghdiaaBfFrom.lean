/-
  What is left of a buffer's values from a place on, with no room behind it; a wake; the first of who waits, as parts.
-/
import Derived.Test.YtehpmjaldghdiaaBfLib
namespace Go.Proofs.Ytehpmjaldghdiaa
open Go.RowKit
set_option linter.unusedVariables false

set_option maxRecDepth 100000 in
set_option maxHeartbeats 800000 in
theorem from_none (xa : Option Addr) (xc : Nat) (w : World) :
    Calls Try.prog 17 #[.slice xa 0 xc, .int .i64 0] w fun e w' => e = .returned (.slice xa 0 0) ∧ w' = w := by
  have h0 : 0 ≤ xc := Nat.zero_le _
  cases xa with
  | none =>
    go_enter Try.func17, Try.ntmps17
    go_wp2
    go_ret
    exact ⟨rfl, rfl⟩
  | some ad =>
    go_enter Try.func17, Try.ntmps17
    go_wp2
    go_ret
    exact ⟨rfl, rfl⟩

set_option maxRecDepth 100000 in
set_option maxHeartbeats 800000 in
theorem from_zero {b off N xc : Nat} (w : World) (h0 : 0 < N) (hc : N ≤ xc) (hm : xc ≤ 9223372036854775807) :
    Calls Try.prog 17 #[.slice (some ⟨b, off, none⟩) N xc, .int .i64 0] w fun e w' => e = .returned (.slice (some ⟨b, off, none⟩) N N) ∧ w' = w := by
  go_enter Try.func17, Try.ntmps17
  go_wp2
  go_ret
  exact ⟨rfl, rfl⟩

set_option maxRecDepth 100000 in
set_option maxHeartbeats 800000 in
theorem from_one {b off N xc : Nat} (w : World) (h0 : 1 ≤ N) (hc : N ≤ xc) (hm : xc ≤ 9223372036854775807) :
    Calls Try.prog 17 #[.slice (some ⟨b, off, none⟩) N xc, .int .i64 1] w fun e w' => e = .returned (.slice (if N = 1 then some ⟨b, off, none⟩ else some ⟨b, off + 1, none⟩) (N - 1) (N - 1)) ∧ w' = w := by
  have h1i : (1 : Int) ≤ (N : Int) := by omega
  by_cases h1 : N = 1
  · subst h1
    go_enter Try.func17, Try.ntmps17
    go_wp2
    go_ret
    exact ⟨rfl, rfl⟩
  · rw [if_neg h1]
    go_enter Try.func17, Try.ntmps17
    go_wp2
    go_ret
    exact ⟨rfl, rfl⟩

theorem from_left0 {xa : Option Addr} {N xc : Nat} {xs : List Int} {w0 w : World} (hv : Sees w0 .i64 (.slice xa N xc) xs) (hN : xs.length = N) :
    Calls Try.prog 17 #[.slice xa N xc, .int .i64 0] w fun e w' => ∃ sa, e = .returned (.slice sa N N) ∧ Sees w0 .i64 (.slice sa N N) xs ∧ Below w.heap.size w w' := by
  have HV := hv
  obtain ⟨a, c, he, h1, h2, hc⟩ := hv.form
  injection he with e1 e2 e3
  subst e1 e2 e3
  unfold maxLen at h2
  by_cases h0 : xs.length = 0
  · rw [h0]
    refine (from_none xa xc w).mono ?_
    rintro e w' ⟨rfl, rfl⟩
    refine ⟨xa, rfl, ?_, Below.refl _ _⟩
    rcases HV with ⟨h3, h4⟩ | ⟨ad, cap, h3, h4, h5, h6⟩
    · injection h3 with e1 e2 e3
      subst e1
      exact .inl ⟨rfl, h4⟩
    · injection h3 with e1 e2 e3
      subst e1
      exact .inr ⟨ad, 0, by rw [h0], by omega, by omega, h6⟩
  · obtain ⟨b, off, rfl, hb, hcell⟩ := hc (by omega)
    refine (from_zero w (by omega) h1 h2).mono ?_
    rintro e w' ⟨rfl, rfl⟩
    refine ⟨_, rfl, .inr ⟨⟨b, off, none⟩, xs.length, rfl, Nat.le_refl _, by unfold maxLen; omega, fun i hi => ?_⟩, Below.refl _ _⟩
    rw [add_none]
    exact hcell i hi

theorem from_left1 {xa : Option Addr} {N xc : Nat} {xs : List Int} {w0 w : World} (hv : Sees w0 .i64 (.slice xa N xc) xs) (hN : xs.length = N) (h0 : 0 < N) :
    Calls Try.prog 17 #[.slice xa N xc, .int .i64 1] w fun e w' => ∃ sa K, e = .returned (.slice sa K K) ∧ K + 1 = N ∧ (xs.drop 1).length = K ∧ Sees w0 .i64 (.slice sa K K) (xs.drop 1) ∧ Below w.heap.size w w' := by
  obtain ⟨a, c, he, h1, h2, hc⟩ := hv.form
  injection he with e1 e2 e3
  subst e1 e2 e3
  unfold maxLen at h2
  obtain ⟨b, off, rfl, hb, hcell⟩ := hc h0
  refine (from_one w h0 h1 h2).mono ?_
  rintro e w' ⟨rfl, rfl⟩
  refine ⟨_, _, rfl, by omega, by simp, ?_, Below.refl _ _⟩
  have := Sees.dropped (w := w0) (k := .i64) (b := b) (off := off) (cap := xs.length) (xs := xs) 1 h0 (Nat.le_refl _) (by unfold maxLen; omega) hcell
  exact this

set_option maxRecDepth 100000 in
set_option maxHeartbeats 800000 in
theorem goes_any (p r v x : Int) {w : World} :
    Calls Try.prog 16 #[.agg #[.int .i64 p, .int .i64 r, .int .i64 v], .int .i64 x] w fun e w' => ∃ q : Sl, e = .returned (.slice q.a q.n q.c) ∧ OWk w' w.heap.size (.slice q.a q.n q.c) [⟨p, 0, x⟩] ∧ Below w.heap.size w w' := by
  have HB := hid (Below.refl w.heap.size w)
  go_enter Try.func16, Try.ntmps16
  have FL1 := hid trivial
  go_wp2_with (first
    | (have hfl := FL1.out
       refine wpList_box rfl 27 (.tmp 0) rfl #[.int .i64 p, .int .i64 r, .int .i64 v] rfl ?_
       intro v1 b h z
       have FB := hid (show BoxAt v1 w.heap.size 27 #[.int .i64 p, .int .i64 r, .int .i64 v] from b)
       have HB := hid (HB.out.trans (h.mono HB.out.size))
       have hsv1 : w.heap.size + 1 ≤ v1.heap.size := by first | exact h.size | omega
       clear b h z hfl FL1
       refine Hid.out ?_)
    | fail)
  refine hid ?_
  have kFB0 : v1.cell? ⟨w.heap.size, 0, none⟩ = some (.int .i64 p) := (BoxAt.cell FB.out 0).trans rfl
  have FL2 := hid trivial
  go_wp2_with (first
    | (have hfl := FL2.out
       refine wpList_litk rfl (.tmp 8) rfl ((⟨p, 0, x⟩ : Wk)) rfl ?_
       intro v2 ho h
       have FB := hid (FB.out.belowAll h)
       have HB := hid (HB.out.trans (h.mono HB.out.size))
       have hsv2 : v1.heap.size ≤ v2.heap.size := by first | exact h.size | omega
       have HQ := hid ho
       clear kFB0
       have kFB0 : v2.cell? ⟨w.heap.size, 0, none⟩ = some (.int .i64 p) := (BoxAt.cell FB.out 0).trans rfl
       clear ho h hfl FL2
       refine Hid.out ?_)
    | fail)
  refine hid ?_
  go_wp2
  go_ret
  exact ⟨⟨some ⟨v1.heap.size, 0, none⟩, 1, 1⟩, rfl, HQ.out.mono (by omega), HB.out⟩
theorem first_yes {v : Value} {l : List Wt} {w : World} (hv : SeesWt w v l) (hlen : l.length ≤ 800000) (h0 : 0 < l.length) (p r x : Int) (hy : l.getD 0 Wt.zero = ⟨p, r, x⟩) :
    Calls Try.prog 15 #[v] w fun e w' => ∃ s : Sl, e = .returned (.tuple #[.agg #[.int .i64 p, .int .i64 r, .int .i64 x], .slice s.a s.n s.c, .bool true]) ∧ OWt w' w.heap.size (.slice s.a s.n s.c) (l.drop 1) ∧ Below w.heap.size w w' := by
  refine (first_any hv hlen).mono ?_
  rintro e w' ⟨u, rfl, hu, hb⟩
  obtain ⟨s, rfl, -⟩ := hu.sl
  refine ⟨s, ?_, hu, hb⟩
  unfold firstV
  rw [hy, decide_eq_true h0]
  rfl
theorem first_no {v : Value} {l : List Wt} {w : World} (hv : SeesWt w v l) (h0 : l.length = 0) :
    Calls Try.prog 15 #[v] w fun e w' => ∃ s : Sl, e = .returned (.tuple #[.agg #[.int .i64 0, .int .i64 0, .int .i64 0], .slice s.a s.n s.c, .bool false]) ∧ OWt w' w.heap.size (.slice s.a s.n s.c) [] ∧ Below w.heap.size w w' := by
  have hl := List.eq_nil_of_length_eq_zero h0
  subst hl
  refine (first_any hv (by simp)).mono ?_
  rintro e w' ⟨u, rfl, hu, hb⟩
  obtain ⟨s, rfl, -⟩ := hu.sl
  exact ⟨s, rfl, hu, hb⟩
theorem rfirst_yes {v : Value} {l : List Wt} {w : World} (hv : SeesWt w v l) (hlen : l.length ≤ 800000) (h0 : 0 < l.length) (p r x : Int) (hy : l.getD 0 Wt.zero = ⟨p, r, x⟩) :
    Calls Try.prog 21 #[v] w fun e w' => ∃ s : Sl, e = .returned (.tuple #[.agg #[.int .i64 p, .int .i64 r, .int .i64 x], .slice s.a s.n s.c, .bool true]) ∧ OWt w' w.heap.size (.slice s.a s.n s.c) (l.drop 1) ∧ Below w.heap.size w w' := by
  refine (rfirst_any hv hlen).mono ?_
  rintro e w' ⟨u, rfl, hu, hb⟩
  obtain ⟨s, rfl, -⟩ := hu.sl
  refine ⟨s, ?_, hu, hb⟩
  unfold firstV
  rw [hy, decide_eq_true h0]
  rfl
theorem rfirst_no {v : Value} {l : List Wt} {w : World} (hv : SeesWt w v l) (h0 : l.length = 0) :
    Calls Try.prog 21 #[v] w fun e w' => ∃ s : Sl, e = .returned (.tuple #[.agg #[.int .i64 0, .int .i64 0, .int .i64 0], .slice s.a s.n s.c, .bool false]) ∧ OWt w' w.heap.size (.slice s.a s.n s.c) [] ∧ Below w.heap.size w w' := by
  have hl := List.eq_nil_of_length_eq_zero h0
  subst hl
  refine (rfirst_any hv (by simp)).mono ?_
  rintro e w' ⟨u, rfl, hu, hb⟩
  obtain ⟨s, rfl, -⟩ := hu.sl
  exact ⟨s, rfl, hu, hb⟩
end Go.Proofs.Ytehpmjaldghdiaa
