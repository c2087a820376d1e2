/-
  The chapter's example of package frame; what First answers, by its relation.
-/
import Derived.Test.YtfdoejdnhogepaaFThru
import Derived.Laws.EntriesVeiled
namespace Go.Proofs.Ytfdoejdnhogepaa
open Go.RowKit
set_option linter.unusedVariables false

theorem first_hit {fr sw : Int} {l : List Wn} {p t r : Int} (h : FirstIs fr sw l p t r) (k : Nat) (hk : (k : Int) < fr) (hfr : fr ≤ 4096) (hm : max t 0 + k ≤ 9223372036854775807) (hb : begB fr sw l p (max t 0 + k) = true)
    (he : ∀ j : Nat, j < k → begB fr sw l p (max t 0 + j) = false) : r = max t 0 + k := by
  obtain ⟨n, hmade, rfl⟩ := h
  rcases hmade with ⟨h1, _⟩ | ⟨_, h2, h3⟩
  · omega
  have hn : n = k + 1 := by
    rcases Nat.lt_trichotomy n (k + 1) with h | h | h
    · exfalso
      rcases h3 with h3 | h3 | ⟨m, h3, h4⟩
      · omega
      · omega
      · have := he m (by omega)
        simp [this] at h4
    · exact h
    · exfalso
      have := (h2 k (by omega)).2.2 h
      simp [hb] at this
  subst hn
  rw [firstF, if_pos ((firstF_no _ _ (by omega) k).2 he), if_pos hb]
theorem first_none {fr sw : Int} {l : List Wn} {p t r : Int} (h : FirstIs fr sw l p t r) (he : ∀ j : Nat, (j : Int) < fr → begB fr sw l p (max t 0 + j) = false) : r = -1 := by
  obtain ⟨n, hmade, rfl⟩ := h
  refine (firstF_no _ _ (by omega) n).2 fun k hk => ?_
  rcases hmade with ⟨h1, h2⟩ | ⟨_, h2, h3⟩
  · omega
  · exact he k (h2 k hk).1

def exL : List Wn := [⟨0, 0, 4⟩, ⟨1, 5, 5⟩]
theorem ex_at15 : atS 10 1 exL 15 = ⟨1, 0, false⟩ := by rfl
theorem ex_at16 : atS 10 1 exL 16 = ⟨1, 1, true⟩ := by rfl
theorem ex_at4 : atS 10 1 exL 4 = ⟨-1, 0, false⟩ := by rfl
theorem ex_share : shareS 10 1 exL 0 = 3 := by rfl
theorem ex_first {r : Int} (h : FirstIs 10 1 exL 1 6 r) : r = 15 :=
  first_hit h 9 (by decide) (by decide) (by decide) (by rfl) (by decide)

set_option maxRecDepth 100000 in
set_option maxHeartbeats 1600000 in
theorem fawake_any (w : World) : Calls Try.prog 24 #[] w fun e w' => e = .returned (.bool true) ∧ Below w.heap.size w w' := by
  have hs : ∀ w', Below (w.alloc (.cells #[.int .i64 0, .int .i64 0, .int .i64 4, .int .i64 1, .int .i64 5, .int .i64 5] 39)).heap.size (w.alloc (.cells #[.int .i64 0, .int .i64 0, .int .i64 4, .int .i64 1, .int .i64 5, .int .i64 5] 39)) w' → SeesWn w' (.slice (some ⟨w.heap.size, 0, none⟩) 2 2) exL := by
    intro w' hb
    have hbx := (BoxAt.new w 39 #[.int .i64 0, .int .i64 0, .int .i64 4, .int .i64 1, .int .i64 5, .int .i64 5]).belowAll hb
    refine .inr ⟨⟨w.heap.size, 0, none⟩, 2, rfl, by decide, by decide, fun i hi j hj => ?_⟩
    rw [add_none, Nat.zero_add, hbx.cell]
    have hi2 : i < 2 := hi
    match i, j, hi2, hj with
    | 0, 0, _, _ => rfl
    | 0, 1, _, _ => rfl
    | 0, 2, _, _ => rfl
    | 1, 0, _, _ => rfl
    | 1, 1, _, _ => rfl
    | 1, 2, _, _ => rfl
  have HS := hid hs
  clear hs
  have hfx : ∀ x ∈ exL, x.fit := by intro x hx; simp [exL] at hx; rcases hx with rfl | rfl <;> simp [Wn.fit]
  have HA15 := hid (fun w' h => at_any ⟨10, 1, ⟨none, 0, 0⟩, ⟨none, 0, 0⟩, ⟨some ⟨w.heap.size, 0, none⟩, 2, 2⟩, ⟨none, 0, 0⟩⟩ exL 15 w' (HS.out w' h) (by simp [fitI]) (by simp [fitI]) hfx)
  have HA16 := hid (fun w' h => at_any ⟨10, 1, ⟨none, 0, 0⟩, ⟨none, 0, 0⟩, ⟨some ⟨w.heap.size, 0, none⟩, 2, 2⟩, ⟨none, 0, 0⟩⟩ exL 16 w' (HS.out w' h) (by simp [fitI]) (by simp [fitI]) hfx)
  have HA4 := hid (fun w' h => at_any ⟨10, 1, ⟨none, 0, 0⟩, ⟨none, 0, 0⟩, ⟨some ⟨w.heap.size, 0, none⟩, 2, 2⟩, ⟨none, 0, 0⟩⟩ exL 4 w' (HS.out w' h) (by simp [fitI]) (by simp [fitI]) hfx)
  have HSh := hid (fun w' h => share_any ⟨10, 1, ⟨none, 0, 0⟩, ⟨none, 0, 0⟩, ⟨some ⟨w.heap.size, 0, none⟩, 2, 2⟩, ⟨none, 0, 0⟩⟩ exL 0 w' (HS.out w' h) (by simp [fitI]) hfx)
  have HFi := hid (fun w' h => first_any ⟨10, 1, ⟨none, 0, 0⟩, ⟨none, 0, 0⟩, ⟨some ⟨w.heap.size, 0, none⟩, 2, 2⟩, ⟨none, 0, 0⟩⟩ exL 1 6 w' (HS.out w' h) (by simp [fitI]) (by simp [fitI]) hfx)
  simp only [ex_at15, ex_at16, ex_at4, ex_share, Slt.val] at HA15 HA16 HA4 HSh
  unfold Cv.val at HA15 HA16 HA4 HSh HFi
  simp only at HA15 HA16 HA4 HSh HFi
  clear HS hfx
  have HB0 := hid (show Below w.heap.size w (w.alloc (.cells #[.int .i64 0, .int .i64 0, .int .i64 4, .int .i64 1, .int .i64 5, .int .i64 5] 39)) from (Below.refl _ _).alloc (Nat.le_refl _) _)
  have hfd2 : ∀ w : World, (Instr.field 51 (.agg #[.int .i64 1, .int .i64 1, .bool true]) 2).run Try.prog w = .ok (.bool true) w := fun _ => by kernel_rfl
  have hfd0 : ∀ w : World, (Instr.field 51 (.agg #[.int .i64 (-1), .int .i64 0, .bool false]) 0).run Try.prog w = .ok (.int .i64 (-1)) w := fun _ => by kernel_rfl
  go_enter Try.func24, Try.ntmps24
  go_wp2_with fail
  refine (HA15.out _ ((Below.refl _ _).alloc (Nat.le_refl _) _)).mono ?_
  rintro e w1 ⟨rfl, hb⟩
  have B1 := hid (show BoxAt w1 (w.heap.size + 1) 27 #[.int .i64 10, .int .i64 1, .slice none 0 0, .slice none 0 0, .slice (some ⟨w.heap.size, 0, none⟩) 2 2, .slice none 0 0] from (BoxAt.new1 w _ _ _).belowAll hb)
  have hB := hid (show Below (w.alloc (.cells #[.int .i64 0, .int .i64 0, .int .i64 4, .int .i64 1, .int .i64 5, .int .i64 5] 39)).heap.size (w.alloc (.cells #[.int .i64 0, .int .i64 0, .int .i64 4, .int .i64 1, .int .i64 5, .int .i64 5] 39)) w1 from ((Below.refl _ _).alloc (Nat.le_refl _) _).trans (hb.mono (by simp)))
  clear hb HA15
  have q0 := (B1.out.cell 0).trans rfl
  have q1 := (B1.out.cell 1).trans rfl
  have q2 := (B1.out.cell 2).trans rfl
  have q3 := (B1.out.cell 3).trans rfl
  have q4 := (B1.out.cell 4).trans rfl
  have q5 := (B1.out.cell 5).trans rfl
  go_wp2_with fail
  refine (HA16.out _ hB.out).mono ?_
  rintro e w2 ⟨rfl, hb⟩
  clear q0 q1 q2 q3 q4 q5 HA16
  replace B1 := hid (B1.out.belowAll hb)
  replace hB := hid (hB.out.trans (hb.mono hB.out.size))
  clear hb
  have q0 := (B1.out.cell 0).trans rfl
  have q1 := (B1.out.cell 1).trans rfl
  have q2 := (B1.out.cell 2).trans rfl
  have q3 := (B1.out.cell 3).trans rfl
  have q4 := (B1.out.cell 4).trans rfl
  have q5 := (B1.out.cell 5).trans rfl
  go_wp2_with fail
  refine (HSh.out _ hB.out).mono ?_
  rintro e w3 ⟨rfl, hb⟩
  clear q0 q1 q2 q3 q4 q5 HSh
  replace B1 := hid (B1.out.belowAll hb)
  replace hB := hid (hB.out.trans (hb.mono hB.out.size))
  clear hb
  have q0 := (B1.out.cell 0).trans rfl
  have q1 := (B1.out.cell 1).trans rfl
  have q2 := (B1.out.cell 2).trans rfl
  have q3 := (B1.out.cell 3).trans rfl
  have q4 := (B1.out.cell 4).trans rfl
  have q5 := (B1.out.cell 5).trans rfl
  go_wp2_with fail
  refine (HFi.out _ hB.out).mono ?_
  rintro e w4 ⟨⟨r, rfl, hr⟩, hb⟩
  obtain rfl := ex_first hr
  clear q0 q1 q2 q3 q4 q5 HFi hr
  replace B1 := hid (B1.out.belowAll hb)
  replace hB := hid (hB.out.trans (hb.mono hB.out.size))
  clear hb
  have q0 := (B1.out.cell 0).trans rfl
  have q1 := (B1.out.cell 1).trans rfl
  have q2 := (B1.out.cell 2).trans rfl
  have q3 := (B1.out.cell 3).trans rfl
  have q4 := (B1.out.cell 4).trans rfl
  have q5 := (B1.out.cell 5).trans rfl
  go_wp2_with fail
  refine (HA4.out _ hB.out).mono ?_
  rintro e w5 ⟨rfl, hb⟩
  clear q0 q1 q2 q3 q4 q5 HA4
  replace hB := hid (hB.out.trans (hb.mono hB.out.size))
  clear hb B1
  go_wp2
  go_ret
  exact ⟨rfl, HB0.out.trans (hB.out.mono (by simp))⟩
end Go.Proofs.Ytfdoejdnhogepaa
