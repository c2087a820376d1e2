/-
  What word.isTables, word.appendDigits, word.Put and the document's own May and Put return, whatever they are given, and that nothing that was there is written.
-/
import Derived.Test.YtfdoejdnhogepaaRows
import Derived.Test.YtfdoejdnhogepaaWMath
import Derived.Test.YtfdoejdnhogepaaLib
import Derived.WalkKit
import Derived.WalkSpells
import Derived.WalkLawsBesides
namespace Go.Proofs.Ytfdoejdnhogepaa
open Go.RowKit
set_option linter.unusedVariables false

theorem Try.infoU8 : (Try.prog.info? 5).map (fun i => (i.zero, i.size, i.bytes)) = some (some (.int .u8 0), 1, 1) := by kernel_rfl
theorem Try.infoInt : (Try.prog.info? 3).map (fun i => (i.zero, i.size, i.bytes)) = some (some (.int .i64 0), 1, 8) := by kernel_rfl

set_option maxHeartbeats 400000 in
theorem isTables_any (n : Int) (w : World) :
    Calls Try.prog 68 #[.int .i64 n] w fun e w' => e = .returned (.bool (isT n)) ∧ w' = w := by
  by_cases h0 : 0 ≤ n
  · by_cases h1 : n ≤ 1099511627776
    · go_enter Try.func68, Try.ntmps68
      go_wp2
      go_ret
      exact ⟨by simp [isT, h0, h1], rfl⟩
    · go_enter Try.func68, Try.ntmps68
      go_wp2
      go_ret
      exact ⟨by simp [isT, h0, h1], rfl⟩
  · go_enter Try.func68, Try.ntmps68
    go_wp2
    go_ret
    exact ⟨by simp [isT]; omega, rfl⟩

set_option maxHeartbeats 400000 in
theorem wmay_any (n : Int) (w : World) :
    Calls Try.prog 88 #[.int .i64 n] w fun e w' => e = .returned (.bool (isT n)) ∧ w' = w := by
  by_cases h0 : 0 ≤ n
  · by_cases h1 : n ≤ 1099511627776
    · go_enter Try.func88, Try.ntmps88
      go_wp2
      go_ret
      exact ⟨by simp [isT, h0, h1], rfl⟩
    · go_enter Try.func88, Try.ntmps88
      go_wp2
      go_ret
      exact ⟨by simp [isT, h0, h1], rfl⟩
  · go_enter Try.func88, Try.ntmps88
    go_wp2
    go_ret
    exact ⟨by simp [isT]; omega, rfl⟩

set_option maxRecDepth 100000 in
set_option maxHeartbeats 400000 in
theorem digits_any (base : Nat) (v : Value) (n : Nat) (xs : List Int) (m : Int) (w : World) (hm0 : 0 ≤ m) (hm1 : m ≤ 1099511627776) (hn : n ≤ 1000000)
    (hown : w.ownsRow base 5 1 v n (xs.map (Value.int .u8))) (hbase : base ≤ w.heap.size) :
    Calls Try.prog 69 #[v, .int .i64 m] w fun e w' =>
      ∃ v' : Value, e = .returned v' ∧ w'.ownsRow base 5 1 v' (xs ++ enc m.toNat).length ((xs ++ enc m.toNat).map (Value.int .u8)) ∧ Below base w w' := by
  obtain ⟨i0, hi, hz0, hz1, hz2⟩ := info_parts Try.infoU8
  go_enter Try.func69, Try.ntmps69
  go_wp2
  go_loopw [0, 1] (fun s t wr => ∃ (f : Nat) (k : Nat) (pre : List Int), f ≤ 6 ∧ t = .int .i64 k ∧ k < 128 ^ (f + 1) ∧ pre.length + f = 6 ∧ enc m.toNat = pre ++ encF f k ∧
      wr.ownsRow base 5 1 s (n + pre.length) ((xs ++ pre).map (Value.int .u8)) ∧ Below base w wr) (fun _ t _ => (intOf t).toNat)
  case atStart => exact ⟨6, m.toNat, [], by omega, by go_num, by omega, rfl, rfl, by simpa using hown, Below.refl _ _⟩
  case round =>
    obtain ⟨f, k, pre, hf, rfl, hk, hpre, henc, hown, hbel⟩ := hrel
    have hkm : k ≤ 562949953421312 := by
      have : 128 ^ (f + 1) ≤ 128 ^ 7 := Nat.pow_le_pow_right (by omega) (by omega)
      omega
    have HE := hid (henc)
    have HK := hid (hk)
    clear henc hk
    by_cases hlt : 128 ≤ k
    · go_wp2_with (at_builtin; refine wpList_append_own _ rfl _ _ 30 rfl base 5 i0 (.int .u8 0) 1 1 Try.underlying30 hi hz0 hz1 hz2 rfl (by decide) _ _ _ rfl (hown.alloc _) ⟨wr.heap.size, 0, none⟩ 1 1 [.int .u8 ((k : Int) % 128 + 128)] rfl rfl (one_new _ _ _) (one_cell _ _) ?c3 ?c4 ?c5 ?_)
      case c3 => unfold maxLen; omega
      case c4 => omega
      case c5 => have := hbel.size; simp; omega
      intro v' w1 hown' hgrow _
      have hown2 : w1.ownsRow base 5 1 v' (n + (pre ++ [(k : Int) % 128 + 128]).length) ((xs ++ (pre ++ [(k : Int) % 128 + 128])).map (Value.int .u8)) := by
        simpa [Nat.add_assoc] using hown'
      have hbel2 : Below base w w1 := (hbel.alloc (by have := hbel.size; omega) _).grown hgrow (by have := hbel.size; simp; omega) (fun k hk => (hown.lt k hk).1)
      clear hown' hgrow
      have HO := hid (hown2)
      clear hown2
      go_wp2
      go_roundw
      case rel =>
        have hf1 : 1 ≤ f := by
          rcases Nat.eq_zero_or_pos f with h | h
          · subst h; have := HK.out; simp at this; omega
          · exact h
        obtain ⟨g, rfl⟩ : ∃ g, f = g + 1 := ⟨f - 1, by omega⟩
        exact ⟨g, k / 128, pre ++ [(k : Int) % 128 + 128], by omega, by go_num, by have := HK.out; rw [Nat.pow_succ] at this; omega, by simp; omega, by rw [HE.out, encF_step _ _ hlt]; simp, HO.out, hbel2⟩
      case measure => simp [intOf]; omega
    · go_wp2_with (at_builtin; refine wpList_append_own _ rfl _ _ 30 rfl base 5 i0 (.int .u8 0) 1 1 Try.underlying30 hi hz0 hz1 hz2 rfl (by decide) _ _ _ rfl (hown.alloc _) ⟨wr.heap.size, 0, none⟩ 1 1 [.int .u8 (k : Int)] rfl rfl (one_new _ _ _) (one_cell _ _) ?d3 ?d4 ?d5 ?_)
      case d3 => unfold maxLen; omega
      case d4 => omega
      case d5 => have := hbel.size; simp; omega
      intro v' w1 hown' hgrow _
      have hnl : n = xs.length := by have := hown.1; simp at this; omega
      have hown2 : w1.ownsRow base 5 1 v' (xs ++ enc m.toNat).length ((xs ++ enc m.toNat).map (Value.int .u8)) := by
        rw [HE.out, encF_last _ _ (by omega)]; simpa [Nat.add_assoc, hnl] using hown'
      have hbel2 : Below base w w1 := (hbel.alloc (by have := hbel.size; omega) _).grown hgrow (by have := hbel.size; simp; omega) (fun k hk => (hown.lt k hk).1)
      clear hown' hgrow
      have HO := hid (hown2)
      clear hown2
      go_wp2
      go_ret
      exact ⟨_, rfl, HO.out, hbel2⟩

theorem Try.hnot : ∀ (x : Bool) (w : World), (Op.unary .not (.bool x)).run Try.prog w = .ok (.bool (!x)) w := fun _ _ => rfl

set_option maxRecDepth 100000 in
set_option maxHeartbeats 400000 in
theorem rput_any (n : Int) (w : World) :
    Calls Try.prog 70 #[.int .i64 n] w fun e w' => ∃ v, e = .returned (.tuple #[v, .int .i64 (putE n)]) ∧
      w'.ownsRow w.heap.size 5 1 v (putB n).length ((putB n).map (Value.int .u8)) ∧ Below w.heap.size w w' := by
  have hnot := Try.hnot
  obtain ⟨i0, hi, hz0, hz1, hz2⟩ := info_parts Try.infoU8
  by_cases h : isT n = true
  · have hb := h
    simp [isT] at hb
    go_enter Try.func70, Try.ntmps70
    go_wp2_with fail
    refine (wmay_any _ _).mono ?_
    rintro e w' ⟨rfl, rfl⟩
    have hpe : enc n.toNat = putB n := by simp [putB, h]
    have hpe2 : putE n = 0 := by simp [putE, h]
    have HP := hid (hpe)
    have HP2 := hid (hpe2)
    clear hpe hpe2
    go_wp2
    go_loopw [0, 5] (fun t s wr => ∃ (f : Nat) (k : Nat) (pre : List Int), f ≤ 6 ∧ t = .int .i64 k ∧ k < 128 ^ (f + 1) ∧ pre.length + f = 6 ∧ enc n.toNat = pre ++ encF f k ∧
        wr.ownsRow w'.heap.size 5 1 s (pre.length) ((pre).map (Value.int .u8)) ∧ Below w'.heap.size w' wr) (fun t _ _ => (intOf t).toNat)
    case atStart => exact ⟨6, n.toNat, [], by omega, by go_num, by omega, rfl, rfl, World.ownsRow_nil _ _ _ _, Below.refl _ _⟩
    case round =>
      obtain ⟨f, k, pre, hf, rfl, hk, hpre, henc, hown, hbel⟩ := hrel
      have hkm : k ≤ 562949953421312 := by
        have : 128 ^ (f + 1) ≤ 128 ^ 7 := Nat.pow_le_pow_right (by omega) (by omega)
        omega
      have HE := hid (henc)
      have HK := hid (hk)
      clear henc hk
      by_cases hlt : 128 ≤ k
      · go_wp2_with (at_builtin; refine wpList_append_own _ rfl _ _ 30 rfl w'.heap.size 5 i0 (.int .u8 0) 1 1 Try.underlying30 hi hz0 hz1 hz2 rfl (by decide) _ _ _ rfl (hown.alloc _) ⟨wr.heap.size, 0, none⟩ 1 1 [.int .u8 ((k : Int) % 128 + 128)] rfl rfl (one_new _ _ _) (one_cell _ _) ?c3 ?c4 ?c5 ?_)
        case c3 => unfold maxLen; omega
        case c4 => omega
        case c5 => have := hbel.size; simp; omega
        intro v' w1 hown' hgrow _
        have hown2 : w1.ownsRow w'.heap.size 5 1 v' ((pre ++ [(k : Int) % 128 + 128]).length) (((pre ++ [(k : Int) % 128 + 128])).map (Value.int .u8)) := by
          simpa [Nat.add_assoc] using hown'
        have hbel2 : Below w'.heap.size w' w1 := (hbel.alloc (by have := hbel.size; omega) _).grown hgrow (by have := hbel.size; simp; omega) (fun k hk => (hown.lt k hk).1)
        clear hown' hgrow
        have HO := hid (hown2)
        clear hown2
        go_wp2
        go_roundw
        case rel =>
          have hf1 : 1 ≤ f := by
            rcases Nat.eq_zero_or_pos f with h | h
            · subst h; have := HK.out; simp at this; omega
            · exact h
          obtain ⟨g, rfl⟩ : ∃ g, f = g + 1 := ⟨f - 1, by omega⟩
          exact ⟨g, k / 128, pre ++ [(k : Int) % 128 + 128], by omega, by go_num, by have := HK.out; rw [Nat.pow_succ] at this; omega, by simp; omega, by rw [HE.out, encF_step _ _ hlt]; simp, HO.out, hbel2⟩
        case measure => simp [intOf]; omega
      · go_wp2_with (at_builtin; refine wpList_append_own _ rfl _ _ 30 rfl w'.heap.size 5 i0 (.int .u8 0) 1 1 Try.underlying30 hi hz0 hz1 hz2 rfl (by decide) _ _ _ rfl (hown.alloc _) ⟨wr.heap.size, 0, none⟩ 1 1 [.int .u8 (k : Int)] rfl rfl (one_new _ _ _) (one_cell _ _) ?d3 ?d4 ?d5 ?_)
        case d3 => unfold maxLen; omega
        case d4 => omega
        case d5 => have := hbel.size; simp; omega
        intro v' w1 hown' hgrow _
        have hown2 : w1.ownsRow w'.heap.size 5 1 v' (putB n).length ((putB n).map (Value.int .u8)) := by
          rw [← HP.out, HE.out, encF_last _ _ (by omega)]; simpa [Nat.add_assoc] using hown'
        have hbel2 : Below w'.heap.size w' w1 := (hbel.alloc (by have := hbel.size; omega) _).grown hgrow (by have := hbel.size; simp; omega) (fun k hk => (hown.lt k hk).1)
        clear hown' hgrow
        have HO := hid (hown2)
        clear hown2
        go_wp2
        go_ret2
        exact ⟨_, by rw [HP2.out]; rfl, HO.out, hbel2⟩
  · have h' : isT n = false := by simpa using h
    go_enter Try.func70, Try.ntmps70
    go_wp2_with fail
    refine (wmay_any _ _).mono ?_
    rintro e w' ⟨rfl, rfl⟩
    go_wp2
    go_ret2
    exact ⟨_, by simp [putE, h']; rfl, by simpa [putB, h'] using World.ownsRow_nil _ _ _ _, Below.refl _ _⟩
end Go.Proofs.Ytfdoejdnhogepaa
