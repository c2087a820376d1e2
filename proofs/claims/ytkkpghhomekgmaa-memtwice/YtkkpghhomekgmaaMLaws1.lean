/-
  The chapter's example holds; MemTouches, MemMay, MemKeeps return true, whatever memory and regions they are given, and nothing that was there is written.
-/
import Derived.Test.YtkkpghhomekgmaaMMath
import Derived.Test.YtkkpghhomekgmaaWSame
namespace Go.Proofs.Ytkkpghhomekgmaa
open Go.RowKit
set_option linter.unusedVariables false

theorem SeesR.of_owns {w : World} {base : Nat} {e : TypeId} {v : Value} {n : Nat} {l : List Rg} (hn : n = l.length) (h : w.ownsRow base e 3 v n (l.map Rg.cells).flatten) : SeesR w v l :=
  SeesC.of_owns (by intro e he; simp at he; obtain ⟨r, _, rfl⟩ := he; rfl) (by simp [hn]) h

/-- A slice of one region, newly made. -/
theorem SeesR.one (w : World) (r : Rg) : SeesR (w.alloc (.cells #[.int .i64 r.f, .int .i64 r.n, .bool r.wr] 35)) (.slice (some ⟨w.heap.size, 0, none⟩) 1 1) [r] :=
  SeesR.of_owns (base := w.heap.size) (e := 35) (n := 1) rfl (World.ownsRow_lit (size := 3) w #[.int .i64 r.f, .int .i64 r.n, .bool r.wr] 1 (Nat.le_refl _) (by decide) rfl)

theorem alloc_below (w : World) (o : Obj) : Below w.heap.size w (w.alloc o) := (Below.refl _ _).alloc (Nat.le_refl _) _

set_option maxRecDepth 100000 in
set_option maxHeartbeats 400000 in
theorem mawake_any (w : World) :
    Calls Try.prog 9 #[] w fun e w' => e = .returned (.bool true) ∧ Below w.heap.size w w' := by
  have hr := SeesR.one w ⟨2, 2, false⟩
  simp only at hr
  have HL := hid (show ∀ r ∈ [(⟨2, 2, false⟩ : Rg)], r.fit by intro r hr; simp at hr; subst hr; exact ⟨by decide, by decide, by decide, by decide⟩)
  have hb0 := alloc_below w (.cells #[.int .i64 2, .int .i64 2, .bool false] 35)
  have hz : (w.alloc (.cells #[.int .i64 2, .int .i64 2, .bool false] 35)).heap.size = w.heap.size + 1 := by simp
  have hm : Sees ((w.alloc (.cells #[.int .i64 2, .int .i64 2, .bool false] 35)).alloc (.cells #[.int .i64 5, .int .i64 6, .int .i64 7, .int .i64 8] 3)) .i64 (.slice (some ⟨w.heap.size + 1, 0, none⟩) 4 4) [5, 6, 7, 8] := by
    rw [← hz]
    exact Sees.of_owns (World.ownsRow_lit (size := 1) (e := 3) (base := 0) _ #[.int .i64 5, .int .i64 6, .int .i64 7, .int .i64 8] 4 (Nat.zero_le _) (by decide) rfl)
  replace hr := hr.below (alloc_below _ (.cells #[.int .i64 5, .int .i64 6, .int .i64 7, .int .i64 8] 3))
  replace hb0 := hb0.trans ((alloc_below (w.alloc (.cells #[.int .i64 2, .int .i64 2, .bool false] 35)) (.cells #[.int .i64 5, .int .i64 6, .int .i64 7, .int .i64 8] 3)).mono (by simp))
  have HR := hid hr
  have HM := hid hm
  have HB := hid hb0
  clear hr hm hb0 hz
  go_enter Try.func9, Try.ntmps9
  go_wp2_with fail
  refine (load_any _ _ _ _ 1 _ HM.out HR.out HL.out (by decide)).mono ?_
  rintro e w1 ⟨rfl, hb1⟩
  have HM1 := hid (HM.out.below hb1)
  have HR1 := hid (HR.out.below hb1)
  have hbb1 := HB.out.trans (hb1.mono HB.out.size)
  clear HM HR hb1
  rw [show loadV [5, 6, 7, 8] [⟨2, 2, false⟩] 1 = 0 by decide, show touchE ([5, 6, 7, 8] : List Int).length [⟨2, 2, false⟩] 1 false = 6 by decide]
  go_wp2_with fail
  refine (load_any _ _ _ _ 3 _ HM1.out HR1.out HL.out (by decide)).mono ?_
  rintro e w2 ⟨rfl, hb2⟩
  have HR2 := hid (HR1.out.below hb2)
  have hbb2 := hbb1.trans (hb2.mono hbb1.size)
  clear HM1 HR1 hb2 hbb1
  rw [show loadV [5, 6, 7, 8] [⟨2, 2, false⟩] 3 = 8 by decide, show touchE ([5, 6, 7, 8] : List Int).length [⟨2, 2, false⟩] 3 false = 0 by decide]
  go_wp2_with fail
  refine (may_any _ _ 4 _ HR2.out HL.out).mono ?_
  rintro e w3 ⟨rfl, hb3⟩
  have hbb3 := hbb2.trans (hb3.mono hbb2.size)
  rw [show mayB [⟨2, 2, false⟩] 4 = true by decide]
  go_wp2
  go_ret
  exact ⟨rfl, hbb3⟩

set_option maxRecDepth 100000 in
set_option maxHeartbeats 400000 in
theorem walk_MemTouches (w : World) (v0 : Value) (m : List Int) (s0 : Sees w .i64 v0 m) (f0 : ∀ n ∈ m, (Lit.int .i64 n).wf = true) (v1 : Value) (l : List Rg) (s1 : SeesR w v1 l) (f1 : ∀ r ∈ l, r.fit) (k : Int) (hk : (Lit.int .i64 k).wf = true) (x : Int) (hx : (Lit.int .i64 x).wf = true) :
    Calls Try.prog 3 #[v0, v1, .int .i64 k, .int .i64 x] w fun e w' => e = .returned (.bool true) ∧ Below w.heap.size w w' := by
  have HK := hid (bounds_i64 hk)
  clear hk hx f0
  have HF := hid f1
  have H0 := hid s0
  have H1 := hid s1
  clear f1 s0 s1
  go_enter Try.func3, Try.ntmps3
  go_wp2_with fail
  refine (mawake_any _).mono ?_
  rintro e w1 ⟨rfl, hb⟩
  go_wp2_with fail
  refine (few_any _ _ m l _ (H0.out.below hb) (H1.out.below hb)).mono ?_
  rintro e w2 ⟨rfl, rfl⟩
  by_cases hf : fewB m l = true
  · have hf2 := hf
    unfold fewB at hf2
    simp only [Bool.and_eq_true, decide_eq_true_eq] at hf2
    obtain ⟨⟨hlen, _⟩, hall⟩ := hf2
    have HA := hid hall
    clear hall
    go_wp2_with fail
    refine (load_any _ _ m l k _ (H0.out.below hb) (H1.out.below hb) HF.out HK.out).mono ?_
    rintro e w2 ⟨rfl, hb2⟩
    replace hb := hb.trans (hb2.mono hb.size)
    clear hb2
    go_wp2_with fail
    refine (rload_any _ _ m l k _ (H0.out.below hb) (H1.out.below hb)).mono ?_
    rintro e w2 ⟨rfl, hb2⟩
    replace hb := hb.trans (hb2.mono hb.size)
    clear hb2
    rw [show rloadV m l k = loadV m l k by unfold rloadV loadV; rw [touch_same _ _ _ _ HA.out], touch_same _ _ _ _ HA.out]
    go_wp2_with fail
    refine (store_any _ _ m l k x _ (H0.out.below hb) (H1.out.below hb) HF.out HK.out (by omega)).mono ?_
    rintro e w3 ⟨u, rfl, hown, hb2⟩
    replace hb := hb.trans (hb2.mono hb.size)
    have HS1 := hid (Sees.of_owns hown)
    clear hb2 hown
    go_wp2_with fail
    refine (rstore_any _ _ m l k x _ (H0.out.below hb) (H1.out.below hb) (by omega)).mono ?_
    rintro e w4 ⟨u2, rfl, hown, hb2⟩
    rw [show rstoreL m l k x = storeL m l k x by unfold rstoreL storeL; rw [touch_same _ _ _ _ HA.out]] at hown
    rw [touch_same _ _ _ _ HA.out]
    replace hb := hb.trans (hb2.mono hb.size)
    have HS2 := hid (Sees.of_owns hown)
    have HS3 := hid (HS1.out.below hb2)
    clear hb2 hown HS1
    generalize touchE m.length l k false = t1
    generalize touchE m.length l k true = t2
    generalize loadV m l k = lv
    generalize storeL m l k x = sl at *
    clear HA H0 H1 HF HK hf hlen
    go_wp2_with fail
    refine (same_any _ _ sl sl _ HS3.out HS2.out).mono ?_
    rintro e w5 ⟨rfl, hb2⟩
    replace hb := hb.trans (hb2.mono hb.size)
    rw [decide_eq_true rfl]
    go_wp2
    go_ret
    exact ⟨rfl, hb⟩
  · have hf' : fewB m l = false := by simpa using hf
    go_wp2
    go_ret
    exact ⟨rfl, hb⟩

set_option maxRecDepth 100000 in
set_option maxHeartbeats 400000 in
theorem walk_MemMay (w : World) (v1 : Value) (l : List Rg) (s1 : SeesR w v1 l) (f1 : ∀ r ∈ l, r.fit) (k : Int) (hk : (Lit.int .i64 k).wf = true) :
    Calls Try.prog 4 #[v1, .int .i64 k] w fun e w' => e = .returned (.bool true) ∧ Below w.heap.size w w' := by
  obtain ⟨al, cl, rfl, hl1, hl2, hlc⟩ := s1.form
  unfold maxLen at hl2
  have HF := hid f1
  have H1 := hid s1
  clear f1 s1 hlc hk
  go_enter Try.func4, Try.ntmps4
  go_wp2_with fail
  refine (mawake_any _).mono ?_
  rintro e w1 ⟨rfl, hb⟩
  by_cases hl : 20 < l.length
  · go_wp2
    go_ret
    exact ⟨rfl, hb⟩
  · go_wp2_with fail
    refine (may_any _ l k _ (H1.out.below hb) HF.out).mono ?_
    rintro e w2 ⟨rfl, hb2⟩
    replace hb := hb.trans (hb2.mono hb.size)
    clear hb2
    go_wp2_with fail
    refine (rmay_any _ l k _ (H1.out.below hb) HF.out).mono ?_
    rintro e w2 ⟨rfl, hb2⟩
    replace hb := hb.trans (hb2.mono hb.size)
    clear hb2
    rw [may_same]
    generalize mayB l k = q
    go_wp2
    go_ret
    exact ⟨rfl, hb⟩
end Go.Proofs.Ytkkpghhomekgmaa
