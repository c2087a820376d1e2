/-
  What the document's own numbers of a flag and of a list are, and that nothing that was there is written.
-/
import Derived.Test.YtfdoejdnhogepaaTOwnI
import Derived.Test.YtfdoejdnhogepaaTFlat
namespace Go.Proofs.Ytfdoejdnhogepaa
open Go.RowKit
set_option linter.unusedVariables false

set_option maxRecDepth 100000 in
set_option maxHeartbeats 400000 in
theorem rbit_any (b : Bool) (w : World) :
    Calls Try.prog 35 #[.bool b] w fun e w' => e = .returned (.int .i64 (bitI b)) ∧ w' = w := by
  cases b
  all_goals
    go_enter Try.func35, Try.ntmps35
    go_wp2
    go_ret
    exact ⟨rfl, rfl⟩

theorem one1_flat (l : List Int) : l.flatMap one1 = l := by
  induction l with
  | nil => rfl
  | cons x l ih => rw [List.flatMap_cons, ih]; rfl

set_option maxRecDepth 100000 in
set_option maxHeartbeats 400000 in
theorem rcounted_any (v : Value) (l : List Int) (w : World) (hv : Sees w .i64 v l) (hl : l.length ≤ 10000) :
    Calls Try.prog 33 #[v] w fun e w' => ∃ u, e = .returned u ∧ OI w' w.heap.size u (cntF one1 l) ∧ Below w.heap.size w w' := by
  have HSe := hid (show Sees (w.alloc (.cells #[.int .i64 (l.length : Int)] 3)) .i64 v l from hv.below ((Below.refl _ _).alloc (Nat.le_refl _) _))
  obtain ⟨al, cl, rfl, hl1, hl2, _⟩ := hv.form
  have HO := hid (show OI (w.alloc (.cells #[.int .i64 (l.length : Int)] 3)) w.heap.size (.slice (some ⟨w.heap.size, 0, none⟩) 1 1) [(l.length : Int)] from OI.made (t := 3) (ys := [(l.length : Int)]) (BoxAt.new w _ _) (Nat.le_refl _) (by simp))
  have HL := hid (show [(l.length : Int)].length + l.length ≤ 1000000 by simp; omega)
  clear hv
  go_enter Try.func33, Try.ntmps33
  go_wp2_with (at_builtin; refine app_ints rfl _ _ rfl w.heap.size _ [(l.length : Int)] rfl HO.out _ l rfl HSe.out HL.out (by simp) ?_)
  intro v1 w1 ho hg hb
  have HR := hid (show OI w1 w.heap.size v1 (cntF one1 l) by unfold cntF; rw [one1_flat]; exact ho)
  have HB := hid (show Below w.heap.size w w1 from ((Below.refl _ _).alloc (Nat.le_refl _) _).trans hb)
  clear ho hg hb HO HSe HL
  go_wp2
  go_ret
  exact ⟨_, rfl, HR.out, HB.out⟩
end Go.Proofs.Ytfdoejdnhogepaa
