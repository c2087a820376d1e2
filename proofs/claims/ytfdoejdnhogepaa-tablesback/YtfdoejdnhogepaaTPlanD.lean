/-
  What the tests of a channel's ends, and of a channel, return, whatever they are given, and that nothing that was there is written.
-/
import Derived.Test.YtfdoejdnhogepaaTPlanA
import Derived.Test.YtfdoejdnhogepaaTPlanB
import Derived.Deep.RegionHeld3
namespace Go.Proofs.Ytfdoejdnhogepaa
open Go.RowKit
set_option linter.unusedVariables false

def portsV (qs : List Pv) (e : En) : Nat := if e.qu then (qs.getD e.p.toNat Pv.zero).v8.n else (qs.getD e.p.toNat Pv.zero).v7.n
def hasEndB (qs : List Pv) (e : En) : Bool := inB 0 ((qs.length : Int) - 1) e.p && inB 0 ((portsV qs e : Int) - 1) e.o

set_option maxRecDepth 100000 in
set_option maxHeartbeats 3200000 in
theorem hasEnd_any (q : Cv) (qs : List Pv) (w : World) (hv : SeesPv w q.p.val qs) (hm : ∀ x ∈ qs, x.v7.n ≤ 9223372036854775807 ∧ x.v8.n ≤ 9223372036854775807) (e : En) :
    Calls Try.prog 85 #[q.val, e.val] w fun x w' => x = .returned (.bool (hasEndB qs e)) ∧ Below w.heap.size w w' := by
  obtain ⟨al, cl, hval, hl1, hl2, hlc⟩ := hv.form
  obtain ⟨fr, sw, ⟨a1, n1, k1⟩, ⟨a2, n2, k2⟩, ⟨a3, n3, k3⟩, ⟨a4, n4, k4⟩⟩ := q
  simp only [Sl.val, Value.slice.injEq] at hval
  obtain ⟨rfl, rfl, rfl⟩ := hval
  obtain ⟨eq, ep, eo⟩ := e
  unfold maxLen at hl2
  have HC := hid hlc
  have HM := hid hm
  clear hlc hv hm
  unfold Cv.val En.val
  have hn : qs.length ≤ 9223372036854775807 := by omega
  obtain ⟨n2, hn2⟩ : ∃ n, qs.length = n := ⟨_, rfl⟩
  have HL := hid hn2
  rw [hn2] at hn hl1 HC
  have HP := hid (show inB 0 ((qs.length : Int) - 1) ep = inB 0 ((n2 : Int) - 1) ep by rw [hn2])
  simp only [hn2]
  clear hn2
  go_enter Try.func85, Try.ntmps85
  go_wp2_with fail
  refine (hasPart_any ⟨fr, sw, ⟨a1, n1, k1⟩, ⟨a2, n2, k2⟩, ⟨a3, n3, k3⟩, ⟨a4, n4, k4⟩⟩ hn ep _).mono ?_
  rintro e w1 ⟨rfl, hb⟩
  have B0 : BoxAt w1 w.heap.size 77 #[.int .i64 fr, .int .i64 sw, .slice a1 n1 k1, .slice a2 n2 k2, .slice a3 n3 k3, .slice a4 n4 k4] := ((BoxAt.new w _ _).alloc _).belowAll hb
  have B1 : BoxAt w1 (w.heap.size + 1) 120 #[.bool eq, .int .i64 ep, .int .i64 eo] := (BoxAt.new1 w _ _ _).belowAll hb
  have hB : Below w.heap.size w w1 := (((Below.refl _ _).alloc (Nat.le_refl _) _).alloc (by simp) _).trans (hb.mono (by simp; omega))
  replace B0 := hid B0
  replace B1 := hid B1
  clear hb
  simp only
  rcases h1 : inB 0 ((n2 : Int) - 1) ep
  · clear HC HM B0 B1
    go_wp2
    go_ret
    exact ⟨by simp only [hasEndB, HP.out, h1]; simp, hB⟩
  have hep : 0 ≤ ep ∧ ep < n2 := by simp [inB] at h1; omega
  obtain ⟨pn, hpn⟩ : ∃ k : Nat, ep = (k : Int) := ⟨ep.toNat, by omega⟩
  subst hpn
  have hlt : pn < n2 := by omega
  obtain ⟨b, off, rfl, hbw, hcell⟩ := HC.out (by omega)
  obtain ⟨s7, hs7⟩ : ∃ s, (qs.getD pn Pv.zero).v7 = s := ⟨_, rfl⟩
  obtain ⟨s8, hs8⟩ : ∃ s, (qs.getD pn Pv.zero).v8 = s := ⟨_, rfl⟩
  have c7 := (hB.cell (by exact hbw)).trans (hcell pn hlt 7 (by decide))
  have c8 := (hB.cell (by exact hbw)).trans (hcell pn hlt 8 (by decide))
  simp only [Pv.cells, List.getD_cons_zero, List.getD_cons_succ, hs7] at c7
  simp only [Pv.cells, List.getD_cons_zero, List.getD_cons_succ, hs8] at c8
  have hmem : qs.getD pn Pv.zero ∈ qs := by
    have : pn < qs.length := by rw [HL.out]; exact hlt
    simp [List.getD, List.getElem?_eq_getElem this]
  have HN7 := hid (show s7.n ≤ 9223372036854775807 by rw [← hs7]; exact (HM.out _ hmem).1)
  have HN8 := hid (show s8.n ≤ 9223372036854775807 by rw [← hs8]; exact (HM.out _ hmem).2)
  have HV7 := hid (show portsV qs ⟨false, pn, eo⟩ = s7.n by simp only [portsV, Int.toNat_natCast, hs7]; rfl)
  have HV8 := hid (show portsV qs ⟨true, pn, eo⟩ = s8.n by simp only [portsV, Int.toNat_natCast, hs8]; rfl)
  have HC7 := hid c7
  have HC8 := hid c8
  have d0 := (B1.out.cell 0).trans rfl
  clear c7 c8 hcell HC HM hs7 hs8 hmem hep
  rcases eq
  · clear HV8 HN8
    have MK := hid (show ∀ w', Below w1.heap.size w1 w' → Below w1.heap.size w1 w' ∧ w'.cell? ⟨w.heap.size, 3, none⟩ = some (.slice (some ⟨b, off, none⟩) n2 k2) ∧ w'.cell? ⟨w.heap.size + 1, 1, none⟩ = some (.int .i64 (pn : Int)) ∧ w'.cell? ⟨w.heap.size + 1, 2, none⟩ = some (.int .i64 eo) ∧ w'.cell? ⟨b, off + pn * 11 + 7, none⟩ = some (.slice s7.a s7.n s7.c) from
      fun w' h => ⟨h, ((B0.out.belowAll h).cell 3).trans rfl, ((B1.out.belowAll h).cell 1).trans rfl, ((B1.out.belowAll h).cell 2).trans rfl, (h.cell (World.block_lt_of_cell? w1 _ HC7.out)).trans HC7.out⟩)
    clear B0 B1 HC7 HC8
    go_wp2_with fail
    go_region_held3 (fun w' => Below w1.heap.size w1 w' ∧ w'.cell? ⟨w.heap.size, 3, none⟩ = some (.slice (some ⟨b, off, none⟩) n2 k2) ∧ w'.cell? ⟨w.heap.size + 1, 1, none⟩ = some (.int .i64 (pn : Int)) ∧ w'.cell? ⟨w.heap.size + 1, 2, none⟩ = some (.int .i64 eo) ∧ w'.cell? ⟨b, off + pn * 11 + 7, none⟩ = some (.slice s7.a s7.n s7.c))
      ((go_split_ands; refine MK.out _ ?_; first
        | exact (Below.refl _ _).drew
        | exact Below.trans (by assumption) (Below.mono hb8 (Below.size (by assumption)))
        | exact Below.trans (by assumption) (Below.mono hb7 (Below.size (by assumption)))
        | assumption))
      ((go_split_ands; first
        | (go_at_call 101
           refine (numsI_any s7.a s7.n s7.c HN7.out _).mono ?_
           rintro e w7 ⟨rfl, hb7⟩)
        | (go_at_call 42
           refine (span_any 0 ((s7.n : Int) - 1) eo _).mono ?_
           rintro e w8 ⟨rfl, hb8⟩)))
    all_goals
      rename_i hq8
      have hq := hq8.1
      clear hq8
      go_wp2
      go_ret
      exact ⟨by simp only [hasEndB, HP.out, h1]; simp [HV7.out], hB.trans (hq.mono hB.size)⟩
  · clear HV7 HN7
    have MK := hid (show ∀ w', Below w1.heap.size w1 w' → Below w1.heap.size w1 w' ∧ w'.cell? ⟨w.heap.size, 3, none⟩ = some (.slice (some ⟨b, off, none⟩) n2 k2) ∧ w'.cell? ⟨w.heap.size + 1, 1, none⟩ = some (.int .i64 (pn : Int)) ∧ w'.cell? ⟨w.heap.size + 1, 2, none⟩ = some (.int .i64 eo) ∧ w'.cell? ⟨b, off + pn * 11 + 8, none⟩ = some (.slice s8.a s8.n s8.c) from
      fun w' h => ⟨h, ((B0.out.belowAll h).cell 3).trans rfl, ((B1.out.belowAll h).cell 1).trans rfl, ((B1.out.belowAll h).cell 2).trans rfl, (h.cell (World.block_lt_of_cell? w1 _ HC8.out)).trans HC8.out⟩)
    clear B0 B1 HC7 HC8
    go_wp2_with fail
    go_region_held3 (fun w' => Below w1.heap.size w1 w' ∧ w'.cell? ⟨w.heap.size, 3, none⟩ = some (.slice (some ⟨b, off, none⟩) n2 k2) ∧ w'.cell? ⟨w.heap.size + 1, 1, none⟩ = some (.int .i64 (pn : Int)) ∧ w'.cell? ⟨w.heap.size + 1, 2, none⟩ = some (.int .i64 eo) ∧ w'.cell? ⟨b, off + pn * 11 + 8, none⟩ = some (.slice s8.a s8.n s8.c))
      ((go_split_ands; refine MK.out _ ?_; first
        | exact (Below.refl _ _).drew
        | exact Below.trans (by assumption) (Below.mono hb8 (Below.size (by assumption)))
        | exact Below.trans (by assumption) (Below.mono hb7 (Below.size (by assumption)))
        | assumption))
      ((go_split_ands; first
        | (go_at_call 101
           refine (numsI_any s8.a s8.n s8.c HN8.out _).mono ?_
           rintro e w7 ⟨rfl, hb7⟩)
        | (go_at_call 42
           refine (span_any 0 ((s8.n : Int) - 1) eo _).mono ?_
           rintro e w8 ⟨rfl, hb8⟩)))
    all_goals
      rename_i hq8
      have hq := hq8.1
      clear hq8
      go_wp2
      go_ret
      exact ⟨by simp only [hasEndB, HP.out, h1]; simp [HV8.out], hB.trans (hq.mono hB.size)⟩
end Go.Proofs.Ytfdoejdnhogepaa
