/-
  FrameAgain, FrameNone: the walks.
-/
import Derived.Test.YtfdoejdnhogepaaFAwake
import Derived.Test.YtfdoejdnhogepaaTOpen
namespace Go.Proofs.Ytfdoejdnhogepaa
open Go.RowKit
set_option linter.unusedVariables false

theorem below_drewN6 {B : Nat} {a w : World} (h : Below B a w) (n : Nat) : Below B a (w.drewN n) := ⟨h.os, h.tape, h.output, h.size, h.block⟩

theorem at_again (fr sw : Int) (l : List Wn) (t : Int) (h1 : 0 ≤ t) (h2 : 1 ≤ fr) : atS fr sw l (t + fr) = atS fr sw l t := by
  unfold atS
  rw [if_neg (by omega), if_neg (by omega)]
  congr 1
  exact Int.add_emod_right _ _
theorem start_again (fr sw : Int) (l : List Wn) (t : Int) (h1 : 0 ≤ t) (h2 : 1 ≤ fr) : startS fr sw l (t + fr) = startS fr sw l t := by
  unfold startS
  rw [at_again fr sw l t h1 h2]

set_option maxRecDepth 100000 in
set_option maxHeartbeats 1600000 in
theorem walk_FrameAgain (w : World) (x : CfX) (hx : x.fit w) (t : Int) (ht : (Lit.int .i64 t).wf = true) :
    Calls Try.prog 9 #[x.val, .int .i64 t] w fun e w' => e = .returned (.bool true) ∧ Below w.heap.size w w' := by
  obtain ⟨⟨fr, sw, ⟨a1, n1, k1⟩, ⟨a2, n2, k2⟩, ⟨a3, n3, k3⟩, ⟨a4, n4, k4⟩⟩, c⟩ := x
  obtain ⟨hS, _, hw⟩ := hx
  simp only at hS hw
  obtain ⟨ht1, ht2⟩ := bounds_i64 ht
  clear ht
  have hfr : fr = c.fr := hS.fr
  have hsw : sw = c.sw := hS.sw
  have hwi : SeesWn w (.slice a3 n3 k3) c.wi := hS.wi
  obtain ⟨hw1, hw2, hw3⟩ := hw
  rw [← hfr] at hw1
  simp only [wide1] at hw1
  have hn3b : n3 ≤ 9223372036854775807 := by
    obtain ⟨_, _, hv, hl1, hl2, _⟩ := hwi.form
    simp only [Value.slice.injEq] at hv
    unfold maxLen at hl2
    omega
  have hfit : ∀ x ∈ c.wi, x.fit := fun v hv => (hw3 v hv).2.1.2
  have HA := hid (fun (T : Int) (hT : fitI T) W (hW : Below w.heap.size w W) => at_any ⟨fr, sw, ⟨a1, n1, k1⟩, ⟨a2, n2, k2⟩, ⟨a3, n3, k3⟩, ⟨a4, n4, k4⟩⟩ c.wi T W (hwi.below hW) hT hw1 hfit)
  have HT := hid (fun (T : Int) (hT : fitI T) W (hW : Below w.heap.size w W) => starts_any ⟨fr, sw, ⟨a1, n1, k1⟩, ⟨a2, n2, k2⟩, ⟨a3, n3, k3⟩, ⟨a4, n4, k4⟩⟩ c.wi T W (hwi.below hW) hT hw1 hfit)
  unfold Cv.val at HA HT
  simp only at HA HT
  generalize c.wi = l at *
  clear hS hwi hw2 hw3 hfit hfr hsw
  unfold CfX.val Cv.val
  go_enter Try.func9, Try.ntmps9
  go_wp2_with fail
  refine (fawake_any _).mono ?_
  rintro e w1 ⟨rfl, hb⟩
  have B1 := hid (show BoxAt w1 w.heap.size 27 #[.int .i64 fr, .int .i64 sw, .slice a1 n1 k1, .slice a2 n2 k2, .slice a3 n3 k3, .slice a4 n4 k4] from (BoxAt.new w _ _).belowAll hb)
  have hB : Below w.heap.size w w1 := ((Below.refl _ _).alloc (Nat.le_refl _) _).trans (hb.mono (by simp))
  have HB := hid hB
  clear hb hB
  have c0 := (B1.out.cell 0).trans rfl
  have c4 := (B1.out.cell 4).trans rfl
  by_cases g1 : 20 < n3
  · clear HA HT
    go_wp2
    go_ret
    exact ⟨rfl, HB.out⟩
  by_cases g2 : t < 0
  · clear HA HT
    go_wp2
    go_ret
    exact ⟨rfl, HB.out⟩
  by_cases g3 : 1099511627776 < t
  · clear HA HT
    go_wp2
    go_ret
    exact ⟨rfl, HB.out⟩
  by_cases g4 : fr < 1
  · clear HA HT
    go_wp2
    go_ret
    exact ⟨rfl, HB.out⟩
  by_cases g5 : 4096 < fr
  · clear HA HT
    go_wp2
    go_ret
    exact ⟨rfl, HB.out⟩
  have HAx := hid (show ∀ T, (T = t ∨ T = t + fr) → ∀ W, Below w1.heap.size w1 W → Calls Try.prog 25 #[.agg #[.int .i64 fr, .int .i64 sw, .slice a1 n1 k1, .slice a2 n2 k2, .slice a3 n3 k3, .slice a4 n4 k4], .int .i64 T] W fun e w' => e = .returned (atS fr sw l t).val ∧ Below W.heap.size W w' by
    rintro T (rfl | rfl) W hW
    · exact HA.out T ⟨ht1, ht2⟩ W (HB.out.trans (hW.mono HB.out.size))
    · have := HA.out (t + fr) (by simp only [fitI]; omega) W (HB.out.trans (hW.mono HB.out.size))
      rw [at_again fr sw l t (by omega) (by omega)] at this
      exact this)
  have HTx := hid (show ∀ T, (T = t ∨ T = t + fr) → ∀ W, Below w1.heap.size w1 W → Calls Try.prog 26 #[.agg #[.int .i64 fr, .int .i64 sw, .slice a1 n1 k1, .slice a2 n2 k2, .slice a3 n3 k3, .slice a4 n4 k4], .int .i64 T] W fun e w' => e = .returned (.int .i64 (startS fr sw l t)) ∧ Below W.heap.size W w' by
    rintro T (rfl | rfl) W hW
    · exact HT.out T ⟨ht1, ht2⟩ W (HB.out.trans (hW.mono HB.out.size))
    · have := HT.out (t + fr) (by simp only [fitI]; omega) W (HB.out.trans (hW.mono HB.out.size))
      rw [start_again fr sw l t (by omega) (by omega)] at this
      exact this)
  clear HA HT
  generalize atS fr sw l t = X at *
  generalize startS fr sw l t = Y at *
  obtain ⟨x0, x1, x2⟩ := X
  simp only [Slt.val] at HAx
  have MK := hid (show ∀ w', Below w1.heap.size w1 w' → Below w1.heap.size w1 w' ∧ w'.cell? ⟨w.heap.size, 0, none⟩ = some (.int .i64 fr) ∧ w'.cell? ⟨w.heap.size, 1, none⟩ = some (.int .i64 sw) ∧ w'.cell? ⟨w.heap.size, 2, none⟩ = some (.slice a1 n1 k1) ∧ w'.cell? ⟨w.heap.size, 3, none⟩ = some (.slice a2 n2 k2) ∧ w'.cell? ⟨w.heap.size, 4, none⟩ = some (.slice a3 n3 k3) ∧ w'.cell? ⟨w.heap.size, 5, none⟩ = some (.slice a4 n4 k4) from
    fun w' h => ⟨h, ((B1.out.belowAll h).cell 0).trans rfl, ((B1.out.belowAll h).cell 1).trans rfl, ((B1.out.belowAll h).cell 2).trans rfl, ((B1.out.belowAll h).cell 3).trans rfl, ((B1.out.belowAll h).cell 4).trans rfl, ((B1.out.belowAll h).cell 5).trans rfl⟩)
  have hwr : IntKind.i64.wrap (t + fr) = t + fr := by rw [IntKind.wrap_i64]; omega
  clear B1
  go_wp2_with fail
  go_region_held3 (fun w' => Below w1.heap.size w1 w' ∧ w'.cell? ⟨w.heap.size, 0, none⟩ = some (.int .i64 fr) ∧ w'.cell? ⟨w.heap.size, 1, none⟩ = some (.int .i64 sw) ∧ w'.cell? ⟨w.heap.size, 2, none⟩ = some (.slice a1 n1 k1) ∧ w'.cell? ⟨w.heap.size, 3, none⟩ = some (.slice a2 n2 k2) ∧ w'.cell? ⟨w.heap.size, 4, none⟩ = some (.slice a3 n3 k3) ∧ w'.cell? ⟨w.heap.size, 5, none⟩ = some (.slice a4 n4 k4))
    ((go_split_ands; refine MK.out _ ?_; first
      | exact (Below.refl _ _).drew
      | exact Below.trans (by assumption) (Below.mono hb8 (Below.size (by assumption)))
      | exact Below.trans (by assumption) (Below.mono hb6 (Below.size (by assumption)))
      | assumption))
    ((go_split_ands; first
      | (go_at_call 25
         refine (HAx.out _ (by first | exact Or.inl rfl | exact Or.inr rfl | exact Or.inr hwr) _ (by assumption)).mono ?_
         rintro e w6 ⟨rfl, hb6⟩)
      | (go_at_call 26
         refine (HTx.out _ (by first | exact Or.inl rfl | exact Or.inr rfl | exact Or.inr hwr) _ (by assumption)).mono ?_
         rintro e w8 ⟨rfl, hb8⟩)))
  rename_i hq
  go_wp2
  go_ret
  exact ⟨rfl, HB.out.trans (hq.1.mono HB.out.size)⟩

theorem at_noframe (sw : Int) (l : List Wn) (t : Int) : atS 0 sw l t = Slt.no := by unfold atS; rw [if_pos (by omega)]
theorem at_early (fr sw : Int) (l : List Wn) (t : Int) (h : t < 0) : atS fr sw l t = Slt.no := by unfold atS; rw [if_pos (by omega)]
theorem start_noframe (sw : Int) (l : List Wn) (t : Int) : startS 0 sw l t = -1 := by unfold startS; rw [at_noframe]; rfl
theorem start_early (fr sw : Int) (l : List Wn) (t : Int) (h : t < 0) : startS fr sw l t = -1 := by unfold startS; rw [at_early fr sw l t h]; rfl
theorem first_noframe {sw : Int} {l : List Wn} {p t r : Int} (h : FirstIs 0 sw l p t r) : r = -1 := first_none h (fun j hj => by omega)
theorem share_noframe (sw : Int) (l : List Wn) (p : Int) : shareS 0 sw l p = 0 := by rfl

set_option maxRecDepth 100000 in
set_option maxHeartbeats 1600000 in
theorem walk_FrameNone (w : World) (x : CfX) (hx : x.fit w) (t : Int) (ht : (Lit.int .i64 t).wf = true) (p : Int) (hp : (Lit.int .i64 p).wf = true) :
    Calls Try.prog 14 #[x.val, .int .i64 t, .int .i64 p] w fun e w' => e = .returned (.bool true) ∧ Below w.heap.size w w' := by
  clear hp
  obtain ⟨⟨fr, sw, ⟨a1, n1, k1⟩, ⟨a2, n2, k2⟩, ⟨a3, n3, k3⟩, ⟨a4, n4, k4⟩⟩, c⟩ := x
  obtain ⟨hS, _, hw⟩ := hx
  simp only at hS hw
  obtain ⟨ht1, ht2⟩ := bounds_i64 ht
  clear ht
  have hfr : fr = c.fr := hS.fr
  have hsw : sw = c.sw := hS.sw
  have hwi : SeesWn w (.slice a3 n3 k3) c.wi := hS.wi
  obtain ⟨hw1, hw2, hw3⟩ := hw
  rw [← hfr] at hw1
  simp only [wide1] at hw1
  have hn3b : n3 ≤ 9223372036854775807 := by
    obtain ⟨_, _, hv, hl1, hl2, _⟩ := hwi.form
    simp only [Value.slice.injEq] at hv
    unfold maxLen at hl2
    omega
  have hfit : ∀ x ∈ c.wi, x.fit := fun v hv => (hw3 v hv).2.1.2
  have HA := hid (fun (hT : t < 0) W (hW : Below w.heap.size w W) => at_any ⟨fr, sw, ⟨a1, n1, k1⟩, ⟨a2, n2, k2⟩, ⟨a3, n3, k3⟩, ⟨a4, n4, k4⟩⟩ c.wi t W (hwi.below hW) ⟨ht1, ht2⟩ hw1 hfit)
  have HT := hid (fun (hT : t < 0) W (hW : Below w.heap.size w W) => starts_any ⟨fr, sw, ⟨a1, n1, k1⟩, ⟨a2, n2, k2⟩, ⟨a3, n3, k3⟩, ⟨a4, n4, k4⟩⟩ c.wi t W (hwi.below hW) ⟨ht1, ht2⟩ hw1 hfit)
  have HA0 := hid (fun W (hW : Below w.heap.size w W) => at_any ⟨0, sw, ⟨a1, n1, k1⟩, ⟨a2, n2, k2⟩, ⟨a3, n3, k3⟩, ⟨a4, n4, k4⟩⟩ c.wi t W (hwi.below hW) ⟨ht1, ht2⟩ (by simp [fitI]) hfit)
  have HT0 := hid (fun W (hW : Below w.heap.size w W) => starts_any ⟨0, sw, ⟨a1, n1, k1⟩, ⟨a2, n2, k2⟩, ⟨a3, n3, k3⟩, ⟨a4, n4, k4⟩⟩ c.wi t W (hwi.below hW) ⟨ht1, ht2⟩ (by simp [fitI]) hfit)
  have HF0 := hid (fun W (hW : Below w.heap.size w W) => first_any ⟨0, sw, ⟨a1, n1, k1⟩, ⟨a2, n2, k2⟩, ⟨a3, n3, k3⟩, ⟨a4, n4, k4⟩⟩ c.wi p t W (hwi.below hW) ⟨ht1, ht2⟩ (by simp [fitI]) hfit)
  have HS0 := hid (fun W (hW : Below w.heap.size w W) => share_any ⟨0, sw, ⟨a1, n1, k1⟩, ⟨a2, n2, k2⟩, ⟨a3, n3, k3⟩, ⟨a4, n4, k4⟩⟩ c.wi p W (hwi.below hW) (by simp [fitI]) hfit)
  unfold Cv.val at HA HT HA0 HT0 HF0 HS0
  simp only [at_noframe, start_noframe, share_noframe, Slt.no, Slt.val] at HA HT HA0 HT0 HF0 HS0
  replace HF0 := hid (show ∀ W, Below w.heap.size w W → Calls Try.prog 28 #[.agg #[.int .i64 0, .int .i64 sw, .slice a1 n1 k1, .slice a2 n2 k2, .slice a3 n3 k3, .slice a4 n4 k4], .int .i64 p, .int .i64 t] W fun e w' => e = .returned (.int .i64 (-1)) ∧ Below W.heap.size W w' from fun W hW => (HF0.out W hW).mono (by
    rintro e w' ⟨⟨r, rfl, hr⟩, hb⟩
    obtain rfl := first_noframe hr
    exact ⟨rfl, hb⟩))
  generalize c.wi = l at *
  clear hS hwi hw2 hw3 hfit hfr hsw
  unfold CfX.val Cv.val
  go_enter Try.func14, Try.ntmps14
  go_wp2_with fail
  refine (fawake_any _).mono ?_
  rintro e w1 ⟨rfl, hb⟩
  have B1 := hid (show BoxAt w1 w.heap.size 27 #[.int .i64 fr, .int .i64 sw, .slice a1 n1 k1, .slice a2 n2 k2, .slice a3 n3 k3, .slice a4 n4 k4] from (BoxAt.new w _ _).belowAll hb)
  have hB : Below w.heap.size w w1 := ((Below.refl _ _).alloc (Nat.le_refl _) _).trans (hb.mono (by simp))
  have HB := hid hB
  clear hb hB
  have c0 := (B1.out.cell 0).trans rfl
  have c1 := (B1.out.cell 1).trans rfl
  have c2 := (B1.out.cell 2).trans rfl
  have c3 := (B1.out.cell 3).trans rfl
  have c4 := (B1.out.cell 4).trans rfl
  have c5 := (B1.out.cell 5).trans rfl
  by_cases g1 : 20 < n3
  · clear HA HT HA0 HT0 HF0 HS0
    go_wp2
    go_ret
    exact ⟨rfl, HB.out⟩
  by_cases g2 : 1099511627776 < t
  · clear HA HT HA0 HT0 HF0 HS0
    go_wp2
    go_ret
    exact ⟨rfl, HB.out⟩
  have BD := hid (show BoxAt ((w1.alloc (.cells #[.int .i64 0, .int .i64 sw, .slice a1 n1 k1, .slice a2 n2 k2, .slice a3 n3 k3, .slice a4 n4 k4] 27)).alloc (.cells #[.int .i64 (-1), .int .i64 0, .bool false] 51)) w1.heap.size 27 #[.int .i64 0, .int .i64 sw, .slice a1 n1 k1, .slice a2 n2 k2, .slice a3 n3 k3, .slice a4 n4 k4] from (BoxAt.new w1 _ _).alloc _)
  have BN := hid (show BoxAt ((w1.alloc (.cells #[.int .i64 0, .int .i64 sw, .slice a1 n1 k1, .slice a2 n2 k2, .slice a3 n3 k3, .slice a4 n4 k4] 27)).alloc (.cells #[.int .i64 (-1), .int .i64 0, .bool false] 51)) (w1.heap.size + 1) 51 #[.int .i64 (-1), .int .i64 0, .bool false] from BoxAt.new1 w1 _ _ _)
  have BC := hid (show BoxAt ((w1.alloc (.cells #[.int .i64 0, .int .i64 sw, .slice a1 n1 k1, .slice a2 n2 k2, .slice a3 n3 k3, .slice a4 n4 k4] 27)).alloc (.cells #[.int .i64 (-1), .int .i64 0, .bool false] 51)) w.heap.size 27 #[.int .i64 fr, .int .i64 sw, .slice a1 n1 k1, .slice a2 n2 k2, .slice a3 n3 k3, .slice a4 n4 k4] from (B1.out.alloc _).alloc _)
  have HB2 := hid (show Below w.heap.size w ((w1.alloc (.cells #[.int .i64 0, .int .i64 sw, .slice a1 n1 k1, .slice a2 n2 k2, .slice a3 n3 k3, .slice a4 n4 k4] 27)).alloc (.cells #[.int .i64 (-1), .int .i64 0, .bool false] 51)) from (HB.out.alloc HB.out.size _).alloc (by have := HB.out.size; simp; omega) _)
  clear B1
  go_wp2_with fail
  generalize ((w1.alloc (.cells #[.int .i64 0, .int .i64 sw, .slice a1 n1 k1, .slice a2 n2 k2, .slice a3 n3 k3, .slice a4 n4 k4] 27)).alloc (.cells #[.int .i64 (-1), .int .i64 0, .bool false] 51)) = W2 at *
  clear c0 c1 c2 c3 c4 c5
  by_cases g3 : 0 ≤ t
  · clear BC HA HT
    go_quiet (fail)
    have hq1 : Below W2.heap.size W2 (W2.drewN nq) := below_drewN (Below.refl _ _) nq
    generalize W2.drewN nq = w7 at *
    replace BD := hid (BD.out.belowAll hq1)
    replace BN := hid (BN.out.belowAll hq1)
    replace HB2 := hid (HB2.out.trans (hq1.mono HB2.out.size))
    clear hq1
    have HA1 := hid (fun W (hW : Below w7.heap.size w7 W) => HA0.out W (HB2.out.trans (hW.mono HB2.out.size)))
    have HT1 := hid (fun W (hW : Below w7.heap.size w7 W) => HT0.out W (HB2.out.trans (hW.mono HB2.out.size)))
    have HF1 := hid (fun W (hW : Below w7.heap.size w7 W) => HF0.out W (HB2.out.trans (hW.mono HB2.out.size)))
    have HS1 := hid (fun W (hW : Below w7.heap.size w7 W) => HS0.out W (HB2.out.trans (hW.mono HB2.out.size)))
    clear HA0 HT0 HF0 HS0
    have MK := hid (show ∀ w', Below w7.heap.size w7 w' → Below w7.heap.size w7 w' ∧ w'.cell? ⟨w1.heap.size, 0, none⟩ = some (.int .i64 0) ∧ w'.cell? ⟨w1.heap.size, 1, none⟩ = some (.int .i64 sw) ∧ w'.cell? ⟨w1.heap.size, 2, none⟩ = some (.slice a1 n1 k1) ∧ w'.cell? ⟨w1.heap.size, 3, none⟩ = some (.slice a2 n2 k2) ∧ w'.cell? ⟨w1.heap.size, 4, none⟩ = some (.slice a3 n3 k3) ∧ w'.cell? ⟨w1.heap.size, 5, none⟩ = some (.slice a4 n4 k4) ∧ w'.cell? ⟨w1.heap.size + 1, 0, none⟩ = some (.int .i64 (-1)) ∧ w'.cell? ⟨w1.heap.size + 1, 1, none⟩ = some (.int .i64 0) ∧ w'.cell? ⟨w1.heap.size + 1, 2, none⟩ = some (.bool false) from
      fun w' h => ⟨h, ((BD.out.belowAll h).cell 0).trans rfl, ((BD.out.belowAll h).cell 1).trans rfl, ((BD.out.belowAll h).cell 2).trans rfl, ((BD.out.belowAll h).cell 3).trans rfl, ((BD.out.belowAll h).cell 4).trans rfl, ((BD.out.belowAll h).cell 5).trans rfl, ((BN.out.belowAll h).cell 0).trans rfl, ((BN.out.belowAll h).cell 1).trans rfl, ((BN.out.belowAll h).cell 2).trans rfl⟩)
    clear BD BN
    go_wp2_with fail
    go_region_held3 (fun w' => Below w7.heap.size w7 w' ∧ w'.cell? ⟨w1.heap.size, 0, none⟩ = some (.int .i64 0) ∧ w'.cell? ⟨w1.heap.size, 1, none⟩ = some (.int .i64 sw) ∧ w'.cell? ⟨w1.heap.size, 2, none⟩ = some (.slice a1 n1 k1) ∧ w'.cell? ⟨w1.heap.size, 3, none⟩ = some (.slice a2 n2 k2) ∧ w'.cell? ⟨w1.heap.size, 4, none⟩ = some (.slice a3 n3 k3) ∧ w'.cell? ⟨w1.heap.size, 5, none⟩ = some (.slice a4 n4 k4) ∧ w'.cell? ⟨w1.heap.size + 1, 0, none⟩ = some (.int .i64 (-1)) ∧ w'.cell? ⟨w1.heap.size + 1, 1, none⟩ = some (.int .i64 0) ∧ w'.cell? ⟨w1.heap.size + 1, 2, none⟩ = some (.bool false))
      ((go_split_ands; refine MK.out _ ?_; first
        | exact (Below.refl _ _).drew
        | exact Below.trans (by assumption) (Below.mono hb9 (Below.size (by assumption)))
        | exact Below.trans (by assumption) (Below.mono hb8 (Below.size (by assumption)))
        | exact Below.trans (by assumption) (Below.mono hb7 (Below.size (by assumption)))
        | exact Below.trans (by assumption) (Below.mono hb6 (Below.size (by assumption)))
        | assumption))
      ((go_split_ands; first
        | (go_at_call 25
           refine (HA1.out _ (by assumption)).mono ?_
           rintro e w6 ⟨rfl, hb6⟩)
        | (go_at_call 26
           refine (HT1.out _ (by assumption)).mono ?_
           rintro e w7 ⟨rfl, hb7⟩)
        | (go_at_call 28
           refine (HF1.out _ (by assumption)).mono ?_
           rintro e w8 ⟨rfl, hb8⟩)
        | (go_at_call 27
           refine (HS1.out _ (by assumption)).mono ?_
           rintro e w9 ⟨rfl, hb9⟩)))
    rename_i hq
    go_wp2
    go_ret
    exact ⟨rfl, HB2.out.trans (hq.1.mono HB2.out.size)⟩
  · have HA2 := hid (fun W (hW : Below W2.heap.size W2 W) => HA.out (by omega) W (HB2.out.trans (hW.mono HB2.out.size)))
    have HT2 := hid (fun W (hW : Below W2.heap.size W2 W) => HT.out (by omega) W (HB2.out.trans (hW.mono HB2.out.size)))
    simp only [at_early fr sw l t (by omega), start_early fr sw l t (by omega), Slt.no] at HA2 HT2
    clear HA HT
    have MK := hid (show ∀ w', Below W2.heap.size W2 w' → Below W2.heap.size W2 w' ∧ w'.cell? ⟨w.heap.size, 0, none⟩ = some (.int .i64 fr) ∧ w'.cell? ⟨w.heap.size, 1, none⟩ = some (.int .i64 sw) ∧ w'.cell? ⟨w.heap.size, 2, none⟩ = some (.slice a1 n1 k1) ∧ w'.cell? ⟨w.heap.size, 3, none⟩ = some (.slice a2 n2 k2) ∧ w'.cell? ⟨w.heap.size, 4, none⟩ = some (.slice a3 n3 k3) ∧ w'.cell? ⟨w.heap.size, 5, none⟩ = some (.slice a4 n4 k4) ∧ w'.cell? ⟨w1.heap.size + 1, 0, none⟩ = some (.int .i64 (-1)) ∧ w'.cell? ⟨w1.heap.size + 1, 1, none⟩ = some (.int .i64 0) ∧ w'.cell? ⟨w1.heap.size + 1, 2, none⟩ = some (.bool false) from
      fun w' h => ⟨h, ((BC.out.belowAll h).cell 0).trans rfl, ((BC.out.belowAll h).cell 1).trans rfl, ((BC.out.belowAll h).cell 2).trans rfl, ((BC.out.belowAll h).cell 3).trans rfl, ((BC.out.belowAll h).cell 4).trans rfl, ((BC.out.belowAll h).cell 5).trans rfl, ((BN.out.belowAll h).cell 0).trans rfl, ((BN.out.belowAll h).cell 1).trans rfl, ((BN.out.belowAll h).cell 2).trans rfl⟩)
    clear BC
    go_region_held3 (fun w' => Below W2.heap.size W2 w' ∧ w'.cell? ⟨w.heap.size, 0, none⟩ = some (.int .i64 fr) ∧ w'.cell? ⟨w.heap.size, 1, none⟩ = some (.int .i64 sw) ∧ w'.cell? ⟨w.heap.size, 2, none⟩ = some (.slice a1 n1 k1) ∧ w'.cell? ⟨w.heap.size, 3, none⟩ = some (.slice a2 n2 k2) ∧ w'.cell? ⟨w.heap.size, 4, none⟩ = some (.slice a3 n3 k3) ∧ w'.cell? ⟨w.heap.size, 5, none⟩ = some (.slice a4 n4 k4) ∧ w'.cell? ⟨w1.heap.size + 1, 0, none⟩ = some (.int .i64 (-1)) ∧ w'.cell? ⟨w1.heap.size + 1, 1, none⟩ = some (.int .i64 0) ∧ w'.cell? ⟨w1.heap.size + 1, 2, none⟩ = some (.bool false))
      ((go_split_ands; refine MK.out _ ?_; first
        | exact (Below.refl _ _).drew
        | exact Below.trans (by assumption) (Below.mono hb7 (Below.size (by assumption)))
        | exact Below.trans (by assumption) (Below.mono hb6 (Below.size (by assumption)))
        | assumption))
      ((go_split_ands; first
        | (go_at_call 25
           refine (HA2.out _ (by assumption)).mono ?_
           rintro e w6 ⟨rfl, hb6⟩)
        | (go_at_call 26
           refine (HT2.out _ (by assumption)).mono ?_
           rintro e w7 ⟨rfl, hb7⟩)))
    rename_i hq
    have hq1 := hq.1
    clear hq hb6 hb7 MK HA2 HT2
    replace BD := hid (BD.out.belowAll hq1)
    replace BN := hid (BN.out.belowAll hq1)
    replace HB2 := hid (HB2.out.trans (hq1.mono HB2.out.size))
    clear hq1
    have HA1 := hid (fun W (hW : Below w7.heap.size w7 W) => HA0.out W (HB2.out.trans (hW.mono HB2.out.size)))
    have HT1 := hid (fun W (hW : Below w7.heap.size w7 W) => HT0.out W (HB2.out.trans (hW.mono HB2.out.size)))
    have HF1 := hid (fun W (hW : Below w7.heap.size w7 W) => HF0.out W (HB2.out.trans (hW.mono HB2.out.size)))
    have HS1 := hid (fun W (hW : Below w7.heap.size w7 W) => HS0.out W (HB2.out.trans (hW.mono HB2.out.size)))
    clear HA0 HT0 HF0 HS0
    have MK := hid (show ∀ w', Below w7.heap.size w7 w' → Below w7.heap.size w7 w' ∧ w'.cell? ⟨w1.heap.size, 0, none⟩ = some (.int .i64 0) ∧ w'.cell? ⟨w1.heap.size, 1, none⟩ = some (.int .i64 sw) ∧ w'.cell? ⟨w1.heap.size, 2, none⟩ = some (.slice a1 n1 k1) ∧ w'.cell? ⟨w1.heap.size, 3, none⟩ = some (.slice a2 n2 k2) ∧ w'.cell? ⟨w1.heap.size, 4, none⟩ = some (.slice a3 n3 k3) ∧ w'.cell? ⟨w1.heap.size, 5, none⟩ = some (.slice a4 n4 k4) ∧ w'.cell? ⟨w1.heap.size + 1, 0, none⟩ = some (.int .i64 (-1)) ∧ w'.cell? ⟨w1.heap.size + 1, 1, none⟩ = some (.int .i64 0) ∧ w'.cell? ⟨w1.heap.size + 1, 2, none⟩ = some (.bool false) from
      fun w' h => ⟨h, ((BD.out.belowAll h).cell 0).trans rfl, ((BD.out.belowAll h).cell 1).trans rfl, ((BD.out.belowAll h).cell 2).trans rfl, ((BD.out.belowAll h).cell 3).trans rfl, ((BD.out.belowAll h).cell 4).trans rfl, ((BD.out.belowAll h).cell 5).trans rfl, ((BN.out.belowAll h).cell 0).trans rfl, ((BN.out.belowAll h).cell 1).trans rfl, ((BN.out.belowAll h).cell 2).trans rfl⟩)
    clear BD BN
    go_wp2_with fail
    go_region_held3 (fun w' => Below w7.heap.size w7 w' ∧ w'.cell? ⟨w1.heap.size, 0, none⟩ = some (.int .i64 0) ∧ w'.cell? ⟨w1.heap.size, 1, none⟩ = some (.int .i64 sw) ∧ w'.cell? ⟨w1.heap.size, 2, none⟩ = some (.slice a1 n1 k1) ∧ w'.cell? ⟨w1.heap.size, 3, none⟩ = some (.slice a2 n2 k2) ∧ w'.cell? ⟨w1.heap.size, 4, none⟩ = some (.slice a3 n3 k3) ∧ w'.cell? ⟨w1.heap.size, 5, none⟩ = some (.slice a4 n4 k4) ∧ w'.cell? ⟨w1.heap.size + 1, 0, none⟩ = some (.int .i64 (-1)) ∧ w'.cell? ⟨w1.heap.size + 1, 1, none⟩ = some (.int .i64 0) ∧ w'.cell? ⟨w1.heap.size + 1, 2, none⟩ = some (.bool false))
      ((go_split_ands; refine MK.out _ ?_; first
        | exact (Below.refl _ _).drew
        | exact Below.trans (by assumption) (Below.mono hb9 (Below.size (by assumption)))
        | exact Below.trans (by assumption) (Below.mono hb8 (Below.size (by assumption)))
        | exact Below.trans (by assumption) (Below.mono hb7 (Below.size (by assumption)))
        | exact Below.trans (by assumption) (Below.mono hb6 (Below.size (by assumption)))
        | assumption))
      ((go_split_ands; first
        | (go_at_call 25
           refine (HA1.out _ (by assumption)).mono ?_
           rintro e w6 ⟨rfl, hb6⟩)
        | (go_at_call 26
           refine (HT1.out _ (by assumption)).mono ?_
           rintro e w7 ⟨rfl, hb7⟩)
        | (go_at_call 28
           refine (HF1.out _ (by assumption)).mono ?_
           rintro e w8 ⟨rfl, hb8⟩)
        | (go_at_call 27
           refine (HS1.out _ (by assumption)).mono ?_
           rintro e w9 ⟨rfl, hb9⟩)))
    rename_i hq
    go_wp2
    go_ret
    exact ⟨rfl, HB2.out.trans (hq.1.mono HB2.out.size)⟩
end Go.Proofs.Ytfdoejdnhogepaa
