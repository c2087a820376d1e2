/-
  What the document's could and ahead return; nothing that was there is written.
-/
import Derived.Test.YtdhkchbmddacmaaYCould
import Derived.Deep.Cut
namespace Go.Proofs.Ytdhkchbmddacmaa
open Go.RowKit
set_option linter.unusedVariables false

def couldB (l : List Px) (i : Nat) (mode : Int) : Bool := canAt l i && (decide (mode = 2) || (decide (mode = 1) && decide (i = 0)))
theorem could_mode (l : List Px) (i : Nat) (mode : Int) (hi : i < l.length) : couldB l i mode = true ↔ i < modeN mode l.length ∧ canAt l i = true := by
  unfold couldB modeN
  simp only [Bool.and_eq_true, Bool.or_eq_true, decide_eq_true_iff]
  by_cases h1 : mode = 1
  · rw [if_pos h1]
    constructor
    · rintro ⟨h, h'⟩; exact ⟨by omega, h⟩
    · rintro ⟨h, h'⟩; exact ⟨h', by omega⟩
  · rw [if_neg h1]
    by_cases h2 : mode = 2
    · rw [if_pos h2]
      constructor
      · rintro ⟨h, h'⟩; exact ⟨hi, h⟩
      · rintro ⟨h, h'⟩; exact ⟨h', by omega⟩
    · rw [if_neg h2]
      constructor
      · rintro ⟨h, h'⟩; omega
      · rintro ⟨h, h'⟩; omega

set_option maxRecDepth 100000 in
set_option maxHeartbeats 1600000 in
theorem rcould_any (vl : Value) (l : List Px) (i : Nat) (mode : Int) (w : World) (hv : SeesPx w vl l) (hi : i < l.length) :
    Calls Try.prog 20 #[vl, .int .i64 i, .int .i64 mode] w fun e w' => e = .returned (.bool (couldB l i mode)) ∧ w' = w := by
  obtain ⟨al, cl, rfl, hl1, hl2, hlc⟩ := hv.form
  obtain ⟨b, off, rfl, hbw, hc⟩ := hlc (by omega)
  have hp : PxAt w b (off + i * 18) (l.getD i Px.zero) := hc i hi
  have c0 := hp.st
  have c2 := hp.su
  obtain ⟨R, hR⟩ : ∃ R, couldB l i mode = R := ⟨_, rfl⟩
  have HR := hid (show R = ((decide ((l.getD i Px.zero).st = 1) && !(l.getD i Px.zero).su) && (decide (mode = 2) || (decide (mode = 1) && decide (i = 0)))) from by rw [← hR]; rfl)
  rw [hR]
  clear hR hc hp hlc hv
  generalize (l.getD i Px.zero).st = st at *
  generalize (l.getD i Px.zero).su = su at *
  generalize l.length = L at *
  by_cases hs : st = 1
  · subst hs
    cases su
    · by_cases h2 : mode = 2
      · subst h2
        have HE := hid (show R = true by rw [HR.out]; simp)
        clear HR
        go_enter Try.func20, Try.ntmps20
        go_wp2
        go_ret
        exact ⟨by rw [HE.out]; rfl, rfl⟩
      · have h2b : (mode == 2) = false := by simpa using h2
        by_cases h1 : mode = 1
        · subst h1
          by_cases h0 : i = 0
          · subst h0
            simp only [Nat.zero_mul, Nat.add_zero] at c0 c2
            have HE := hid (show R = true by rw [HR.out]; simp)
            clear HR
            go_enter Try.func20, Try.ntmps20
            go_wp2
            go_ret
            exact ⟨by rw [HE.out]; rfl, rfl⟩
          · have h0b : (((i : Nat) : Int) == 0) = false := by simp; omega
            have HE := hid (show R = false by rw [HR.out]; simp [h0])
            clear HR
            go_enter Try.func20, Try.ntmps20
            go_wp2
            go_ret
            exact ⟨by rw [HE.out]; rfl, rfl⟩
        · have h1b : (mode == 1) = false := by simpa using h1
          have HE := hid (show R = false by rw [HR.out]; simp [h1, h2])
          clear HR
          go_enter Try.func20, Try.ntmps20
          go_wp2
          go_ret
          exact ⟨by rw [HE.out]; rfl, rfl⟩
    · have HE := hid (show R = false by rw [HR.out]; simp)
      clear HR
      go_enter Try.func20, Try.ntmps20
      go_wp2
      go_ret
      exact ⟨by rw [HE.out]; rfl, rfl⟩
  · have hsb : (st != 1) = true := by simpa using hs
    have HE := hid (show R = false by rw [HR.out]; simp [hs])
    clear HR
    go_enter Try.func20, Try.ntmps20
    go_wp2
    go_ret
    exact ⟨by rw [HE.out]; rfl, rfl⟩

set_option maxRecDepth 100000 in
set_option maxHeartbeats 1600000 in
theorem rahead_any (vl : Value) (l : List Px) (i j : Nat) (w : World) (hv : SeesPx w vl l) (hi : i < l.length) (hj : j < l.length) :
    Calls Try.prog 21 #[vl, .int .i64 i, .int .i64 j] w fun e w' => e = .returned (.bool (aheadN l i j)) ∧ Below w.heap.size w w' := by
  obtain ⟨al, cl, rfl, hl1, hl2, hlc⟩ := hv.form
  unfold maxLen at hl2
  obtain ⟨b, off, rfl, hbw, hc⟩ := hlc (by omega)
  have hp : PxAt w b (off + i * 18) (l.getD i Px.zero) := hc i hi
  have hq : PxAt w b (off + j * 18) (l.getD j Px.zero) := hc j hj
  obtain ⟨R, hR⟩ : ∃ R, aheadN l i j = R := ⟨_, rfl⟩
  have HR := hid (show R = decide ((l.getD j Px.zero).pr < (l.getD i Px.zero).pr ∨ ((l.getD i Px.zero).pr = (l.getD j Px.zero).pr ∧ ((l.getD i Px.zero).si < (l.getD j Px.zero).si ∨ ((l.getD i Px.zero).si = (l.getD j Px.zero).si ∧ i < j)))) from by rw [← hR]; rfl)
  rw [hR]
  clear hR hc hlc hv
  have HP := hid hp
  have HQ := hid hq
  clear hp hq
  generalize l.getD i Px.zero = x at *
  generalize l.getD j Px.zero = y at *
  have HPA := hid (show ∀ o, PxAt (w.alloc o) b (off + i * 18) x from fun o => HP.out.below ((Below.refl _ _).alloc (Nat.le_refl _) o) hbw)
  generalize l.length = L at *
  go_enter Try.func21, Try.ntmps21
  go_upto_region 3 with (first
    | (refine wpList_load_px rfl _ rfl b (off + i * 18) rfl x HP.out ?_)
    | (refine wpList_load_px rfl _ rfl b (off + i * 18) rfl x (HPA.out _) ?_)
    | (refine wpList_load_px rfl _ rfl b (off + j * 18) rfl y HQ2.out ?_)
    | (refine wpList_load_px rfl _ rfl b (off + j * 18) rfl y (HQ3.out _) ?_)
    | (refine wpList_store_px rfl _ _ rfl rfl _ rfl x rfl _ (BoxAt.new _ _ _) rfl ?_
       intro w1 hb1 hg1 hs1
       have hw1 : Below w.heap.size w w1 := ((Below.refl w.heap.size w).alloc (Nat.le_refl _) _).grown hg1 (by simp) (fun k hk => by cases hk; exact Nat.le_refl _)
       have HW1 := hid hw1
       have HX1 := hid hb1
       have HQ2 := hid (HQ.out.below hw1 (by omega))
       have hz1 : w.heap.size < w1.heap.size := by rw [hs1]; simp
       have HQ3 := hid (show ∀ o, PxAt (w1.alloc o) b (off + j * 18) y from fun o => HQ2.out.below ((Below.refl _ _).alloc (Nat.le_refl _) o) (by omega))
       clear hb1 hg1 hs1 hw1)
    | (refine wpList_store_px rfl _ _ rfl rfl _ rfl y rfl _ (BoxAt.new _ _ _) rfl ?_
       intro w2 hb2 hg2 hs2
       have hw2 : Below w1.heap.size w1 w2 := ((Below.refl w1.heap.size w1).alloc (Nat.le_refl _) _).grown hg2 (by simp) (fun k hk => by cases hk; exact Nat.le_refl _)
       have HW2 := hid (HW1.out.trans (hw2.mono HW1.out.size))
       have hx := PxAt.box (HX1.out.below hw2 (by omega))
       have hy := PxAt.box hb2
       have c1 := hx.pr
       have c8 := hx.si
       have d1 := hy.pr
       have d8 := hy.si
       clear hb2 hg2 hs2 hw2 hx hy))
  clear HX1 HQ2 HQ3 HP HPA HQ HW1
  generalize x.pr = xp at *
  generalize y.pr = yp at *
  generalize x.si = xs at *
  generalize y.si = ys at *
  rcases Int.lt_trichotomy xp yp with h | h | h
  · have hne : (xp != yp) = true := by simp; omega
    have hd : decide (yp < xp) = false := decide_eq_false (by omega)
    have HE := hid (show R = false by rw [HR.out]; exact decide_eq_false (by omega))
    clear HR
    go_wp2
    go_ret
    exact ⟨by rw [HE.out]; rfl, HW2.out⟩
  · subst h
    rcases Int.lt_trichotomy xs ys with h | h | h
    · have hne : (xs != ys) = true := by simp; omega
      have HE := hid (show R = true by rw [HR.out]; exact decide_eq_true (by omega))
      clear HR
      go_wp2
      go_ret
      exact ⟨by rw [HE.out]; rfl, HW2.out⟩
    · subst h
      by_cases hij : i < j
      · have HE := hid (show R = true by rw [HR.out]; exact decide_eq_true (by omega))
        have hij2 : (i : Int) < j := by omega
        clear HR
        go_wp2
        go_ret
        exact ⟨by rw [HE.out]; rfl, HW2.out⟩
      · have HE := hid (show R = false by rw [HR.out]; exact decide_eq_false (by omega))
        have hij2 : ¬ (i : Int) < j := by omega
        clear HR
        go_wp2
        go_ret
        exact ⟨by rw [HE.out]; rfl, HW2.out⟩
    · have hne : (xs != ys) = true := by simp; omega
      have hd : decide (xs < ys) = false := decide_eq_false (by omega)
      have HE := hid (show R = false by rw [HR.out]; exact decide_eq_false (by omega))
      clear HR
      go_wp2
      go_ret
      exact ⟨by rw [HE.out]; rfl, HW2.out⟩
  · have hne : (xp != yp) = true := by simp; omega
    have HE := hid (show R = true by rw [HR.out]; exact decide_eq_true (by omega))
    clear HR
    go_wp2
    go_ret
    exact ⟨by rw [HE.out]; rfl, HW2.out⟩
end Go.Proofs.Ytdhkchbmddacmaa
