/-
  What slices.Clone returns of a slice of integers: one of the call's own that reads the same.
-/
import Derived.Test.YtehpmjaldghdiaaTOwnI
namespace Go.Proofs.Ytehpmjaldghdiaa
open Go.RowKit
set_option linter.unusedVariables false

set_option maxRecDepth 100000 in
set_option maxHeartbeats 800000 in
theorem qclone_int {v : Value} {l : List Int} {w : World} (hv : Sees w .i64 v l) (hlen : l.length ≤ 900000) :
    Calls Try.prog 25 #[v] w fun e w' => ∃ u, e = .returned u ∧ OI w' w.heap.size u l ∧ Below w.heap.size w w' := by
  have hs : Sees (w.alloc (.cells #[] 3)) .i64 v l := hv.below ((Below.refl _ _).alloc (Nat.le_refl _) _)
  have hnil := fun (w : World) (a : Option Addr) (l c : Nat) => Lib.run_eql_slice_nil (P := Try.prog) w 22 3 a l c 0 0 Try.underlying22
  rcases hv with ⟨rfl, rfl⟩ | ⟨ad, cap, rfl, h1, h2, hc⟩
  · clear hs
    go_enter Try.func25, Try.ntmps25
    go_wp2
    go_ret
    exact ⟨_, rfl, ⟨rfl, .inl ⟨rfl, rfl⟩⟩, Below.refl _ _⟩
  · clear hc
    have HS := hid hs
    clear hs
    have hown : OI (w.alloc (.cells #[] 3)) w.heap.size (.slice (some ⟨w.heap.size, 0, none⟩) 0 0) [] := World.ownsRow_made w #[] 0 (Nat.le_refl _) (by decide) rfl
    go_enter Try.func25, Try.ntmps25
    go_wp2_with (at_builtin; refine app_ints rfl _ _ rfl w.heap.size _ [] rfl hown _ l rfl HS.out ?c1 ?c2 ?_)
    case c1 => simp; omega
    case c2 => simp
    intro v' w2 hown2 hgrow hb
    have hbel : Below w.heap.size w w2 := ((Below.refl _ _).alloc (Nat.le_refl _) _).trans hb
    have HO := hid (show OI w2 w.heap.size v' l by simpa using hown2)
    clear hown2 hown hgrow hb
    go_wp2
    go_ret
    exact ⟨_, rfl, HO.out, hbel⟩

end Go.Proofs.Ytehpmjaldghdiaa
