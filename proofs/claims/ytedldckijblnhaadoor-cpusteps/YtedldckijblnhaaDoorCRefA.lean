/-
  What the small functions of the document for one instruction return.
-/
import Derived.Test.YtedldckijblnhaaDoorCStep2
import Derived.Test.YtedldckijblnhaaDoorRRef2
import Derived.Test.YtedldckijblnhaaDoorMRef2
import Derived.Test.YtedldckijblnhaaDoorIRefD
namespace Go.Proofs.YtedldckijblnhaaDoor
open Go.RowKit
set_option linter.unusedVariables false

set_option maxRecDepth 100000 in
set_option maxHeartbeats 3200000 in
theorem bit_any (b : Bool) (w : World) : Calls Tryd.prog 38 #[.bool b] w fun e w' => e = .returned (.int .i64 (bitZ b)) ∧ w' = w := by
  cases b
  · go_enter Tryd.func38, Tryd.ntmps38
    go_wp2
    go_ret
    exact ⟨rfl, rfl⟩
  · go_enter Tryd.func38, Tryd.ntmps38
    go_wp2
    go_ret
    exact ⟨rfl, rfl⟩

def wrongF (e : Int) : Int := if e = 0 then 0 else 5

set_option maxRecDepth 100000 in
set_option maxHeartbeats 3200000 in
theorem wrong_any (e : Int) (w : World) : Calls Tryd.prog 25 #[.int .i64 e] w fun r w' => r = .returned (.int .i64 (wrongF e)) ∧ w' = w := by
  by_cases h : e = 0
  · subst h
    go_enter Tryd.func25, Tryd.ntmps25
    go_wp2
    go_ret
    exact ⟨rfl, rfl⟩
  · have h' : (e != 0) = true := by simpa using h
    rw [show wrongF e = 5 by unfold wrongF; rw [if_neg h]]
    go_enter Tryd.func25, Tryd.ntmps25
    go_wp2
    go_ret
    exact ⟨rfl, rfl⟩

def rkV (k : Nat) (x y b : Int) : Int := if k = 1 then b else opV k x y
def rkF (k : Nat) (y : Int) : Int := if k = 6 then df y else 0

theorem rload_few (vm vl : Value) (m : List Int) (l : List Rg) (k : Int) (w : World) (hm : Sees w .i64 vm m) (hv : SeesR w vl l) (hf : l.all fewR = true) :
    Calls Tryd.prog 24 #[vm, vl, .int .i64 k] w fun e w' => e = .returned (.tuple #[.int .i64 (loadV m l k), .int .i64 (touchE m.length l k false)]) ∧ Below w.heap.size w w' := by
  have h := rload_any vm vl m l k w hm hv
  unfold rloadV at h
  rw [touch_same m.length l k false hf] at h
  exact h
theorem rstore_few (vm vl : Value) (m : List Int) (l : List Rg) (k x : Int) (w : World) (hm : Sees w .i64 vm m) (hv : SeesR w vl l) (hlen : m.length ≤ 100000) (hf : l.all fewR = true) :
    Calls Tryd.prog 26 #[vm, vl, .int .i64 k, .int .i64 x] w fun e w' => ∃ u, e = .returned (.tuple #[u, .int .i64 (touchE m.length l k true)]) ∧
      w'.ownsRow w.heap.size 3 1 u (storeL m l k x).length ((storeL m l k x).map (Value.int .i64)) ∧ Below w.heap.size w w' := by
  have h := rstore_any vm vl m l k x w hm hv hlen
  unfold rstoreL at h
  rw [touch_same m.length l k true hf] at h
  exact h

set_option maxRecDepth 100000 in
set_option maxHeartbeats 3200000 in
theorem reckon1 (x y b : Int) (hx : fit64 x) (hy : fit64 y) (w : World) : Calls Tryd.prog 27 #[.int .i64 1, .int .i64 x, .int .i64 y, .int .i64 b] w fun e w' => e = .returned (.tuple #[.int .i64 (rkV 1 x y b), .int .i64 (rkF 1 y)]) ∧ w' = w := by
  rw [show rkV 1 x y b = b from rfl, show rkF 1 y = 0 from rfl]
  clear hx hy
  go_enter Tryd.func27, Tryd.ntmps27
  go_wp2
  go_ret2
  exact ⟨rfl, rfl⟩

set_option maxRecDepth 100000 in
set_option maxHeartbeats 3200000 in
theorem reckon2 (x y b : Int) (hx : fit64 x) (hy : fit64 y) (w : World) : Calls Tryd.prog 27 #[.int .i64 2, .int .i64 x, .int .i64 y, .int .i64 b] w fun e w' => e = .returned (.tuple #[.int .i64 (rkV 2 x y b), .int .i64 (rkF 2 y)]) ∧ w' = w := by
  rw [show rkV 2 x y b = opV 2 x y from rfl, show rkF 2 y = 0 from rfl]
  simp only [opV]
  clear hx hy
  go_enter Tryd.func27, Tryd.ntmps27
  go_wp2
  go_ret2
  exact ⟨rfl, rfl⟩

set_option maxRecDepth 100000 in
set_option maxHeartbeats 3200000 in
theorem reckon3 (x y b : Int) (hx : fit64 x) (hy : fit64 y) (w : World) : Calls Tryd.prog 27 #[.int .i64 3, .int .i64 x, .int .i64 y, .int .i64 b] w fun e w' => e = .returned (.tuple #[.int .i64 (rkV 3 x y b), .int .i64 (rkF 3 y)]) ∧ w' = w := by
  rw [show rkV 3 x y b = opV 3 x y from rfl, show rkF 3 y = 0 from rfl]
  simp only [opV]
  clear hx hy
  go_enter Tryd.func27, Tryd.ntmps27
  go_wp2
  go_ret2
  exact ⟨by simp [wrap64], rfl⟩

set_option maxRecDepth 100000 in
set_option maxHeartbeats 3200000 in
theorem reckon4 (x y b : Int) (hx : fit64 x) (hy : fit64 y) (w : World) : Calls Tryd.prog 27 #[.int .i64 4, .int .i64 x, .int .i64 y, .int .i64 b] w fun e w' => e = .returned (.tuple #[.int .i64 (rkV 4 x y b), .int .i64 (rkF 4 y)]) ∧ w' = w := by
  rw [show rkV 4 x y b = opV 4 x y from rfl, show rkF 4 y = 0 from rfl]
  simp only [opV]
  clear hx hy
  go_enter Tryd.func27, Tryd.ntmps27
  go_wp2
  go_ret2
  exact ⟨by simp [wrap64], rfl⟩

set_option maxRecDepth 100000 in
set_option maxHeartbeats 3200000 in
theorem reckon5 (x y b : Int) (hx : fit64 x) (hy : fit64 y) (w : World) : Calls Tryd.prog 27 #[.int .i64 5, .int .i64 x, .int .i64 y, .int .i64 b] w fun e w' => e = .returned (.tuple #[.int .i64 (rkV 5 x y b), .int .i64 (rkF 5 y)]) ∧ w' = w := by
  rw [show rkV 5 x y b = opV 5 x y from rfl, show rkF 5 y = 0 from rfl]
  simp only [opV]
  clear hx hy
  go_enter Tryd.func27, Tryd.ntmps27
  go_wp2
  go_ret2
  exact ⟨by simp [wrap64], rfl⟩

set_option maxRecDepth 100000 in
set_option maxHeartbeats 3200000 in
theorem reckon6 (x y b : Int) (hx : fit64 x) (hy : fit64 y) (w : World) : Calls Tryd.prog 27 #[.int .i64 6, .int .i64 x, .int .i64 y, .int .i64 b] w fun e w' => e = .returned (.tuple #[.int .i64 (rkV 6 x y b), .int .i64 (rkF 6 y)]) ∧ w' = w := by
  rw [show rkV 6 x y b = dq x y from rfl, show rkF 6 y = df y from rfl]
  have HC := hid (rdiv_any x y)
  generalize dq x y = z at *
  generalize df y = z2 at *
  clear hx hy
  go_enter Tryd.func27, Tryd.ntmps27
  go_wp2_with fail
  refine (HC.out _).mono ?_
  rintro e w1 ⟨rfl, rfl⟩
  go_wp2
  go_ret2
  exact ⟨rfl, rfl⟩

set_option maxRecDepth 100000 in
set_option maxHeartbeats 3200000 in
theorem reckon7 (x y b : Int) (hx : fit64 x) (hy : fit64 y) (w : World) : Calls Tryd.prog 27 #[.int .i64 7, .int .i64 x, .int .i64 y, .int .i64 b] w fun e w' => e = .returned (.tuple #[.int .i64 (rkV 7 x y b), .int .i64 (rkF 7 y)]) ∧ w' = w := by
  rw [show rkV 7 x y b = opV 7 x y from rfl, show rkF 7 y = 0 from rfl]
  simp only [opV]
  clear hx hy
  go_enter Tryd.func27, Tryd.ntmps27
  go_wp2_with fail
  refine (bit_any _ _).mono ?_
  rintro e w1 ⟨rfl, rfl⟩
  go_wp2
  go_ret2
  exact ⟨rfl, rfl⟩

set_option maxRecDepth 100000 in
set_option maxHeartbeats 3200000 in
theorem reckon12 (x y b : Int) (hx : fit64 x) (hy : fit64 y) (w : World) : Calls Tryd.prog 27 #[.int .i64 12, .int .i64 x, .int .i64 y, .int .i64 b] w fun e w' => e = .returned (.tuple #[.int .i64 (rkV 12 x y b), .int .i64 (rkF 12 y)]) ∧ w' = w := by
  rw [show rkV 12 x y b = halfX x from rfl, show rkF 12 y = 0 from rfl]
  have HC := hid (rhalf_any x hx.1 hx.2)
  generalize halfX x = z at *
  clear hx hy
  go_enter Tryd.func27, Tryd.ntmps27
  go_wp2_with fail
  refine (HC.out _).mono ?_
  rintro e w1 ⟨rfl, rfl⟩
  go_wp2
  go_ret2
  exact ⟨rfl, rfl⟩

set_option maxRecDepth 100000 in
set_option maxHeartbeats 3200000 in
theorem reckon13 (x y b : Int) (hx : fit64 x) (hy : fit64 y) (w : World) : Calls Tryd.prog 27 #[.int .i64 13, .int .i64 x, .int .i64 y, .int .i64 b] w fun e w' => e = .returned (.tuple #[.int .i64 (rkV 13 x y b), .int .i64 (rkF 13 y)]) ∧ w' = w := by
  rw [show rkV 13 x y b = twiceX x from rfl, show rkF 13 y = 0 from rfl]
  have HC := hid (rtwice_any x hx.1 hx.2)
  generalize twiceX x = z at *
  clear hx hy
  go_enter Tryd.func27, Tryd.ntmps27
  go_wp2_with fail
  refine (HC.out _).mono ?_
  rintro e w1 ⟨rfl, rfl⟩
  go_wp2
  go_ret2
  exact ⟨rfl, rfl⟩

set_option maxRecDepth 100000 in
set_option maxHeartbeats 3200000 in
theorem reckon14 (x y b : Int) (hx : fit64 x) (hy : fit64 y) (w : World) : Calls Tryd.prog 27 #[.int .i64 14, .int .i64 x, .int .i64 y, .int .i64 b] w fun e w' => e = .returned (.tuple #[.int .i64 (rkV 14 x y b), .int .i64 (rkF 14 y)]) ∧ w' = w := by
  rw [show rkV 14 x y b = flipX x from rfl, show rkF 14 y = 0 from rfl]
  have HC := hid (rflip_any x hx.1 hx.2)
  generalize flipX x = z at *
  clear hx hy
  go_enter Tryd.func27, Tryd.ntmps27
  go_wp2_with fail
  refine (HC.out _).mono ?_
  rintro e w1 ⟨rfl, rfl⟩
  go_wp2
  go_ret2
  exact ⟨rfl, rfl⟩

set_option maxRecDepth 100000 in
set_option maxHeartbeats 3200000 in
theorem reckon15 (x y b : Int) (hx : fit64 x) (hy : fit64 y) (w : World) : Calls Tryd.prog 27 #[.int .i64 15, .int .i64 x, .int .i64 y, .int .i64 b] w fun e w' => e = .returned (.tuple #[.int .i64 (rkV 15 x y b), .int .i64 (rkF 15 y)]) ∧ w' = w := by
  rw [show rkV 15 x y b = bitZ (belowX x y) from rfl, show rkF 15 y = 0 from rfl]
  have HC := hid (rbelow_any x y hx.1 hx.2 hy.1 hy.2)
  generalize belowX x y = z at *
  clear hx hy
  go_enter Tryd.func27, Tryd.ntmps27
  go_wp2_with fail
  refine (HC.out _).mono ?_
  rintro e w1 ⟨rfl, rfl⟩
  go_wp2_with fail
  refine (bit_any _ _).mono ?_
  rintro e w2 ⟨rfl, rfl⟩
  go_wp2
  go_ret2
  exact ⟨rfl, rfl⟩

set_option maxRecDepth 100000 in
set_option maxHeartbeats 3200000 in
theorem reckon16 (x y b : Int) (hx : fit64 x) (hy : fit64 y) (w : World) : Calls Tryd.prog 27 #[.int .i64 16, .int .i64 x, .int .i64 y, .int .i64 b] w fun e w' => e = .returned (.tuple #[.int .i64 (rkV 16 x y b), .int .i64 (rkF 16 y)]) ∧ w' = w := by
  rw [show rkV 16 x y b = ofX x from rfl, show rkF 16 y = 0 from rfl]
  have HC := hid (rof_any x hx.1 hx.2)
  generalize ofX x = z at *
  clear hx hy
  go_enter Tryd.func27, Tryd.ntmps27
  go_wp2_with fail
  refine (HC.out _).mono ?_
  rintro e w1 ⟨rfl, rfl⟩
  go_wp2
  go_ret2
  exact ⟨rfl, rfl⟩

set_option maxRecDepth 100000 in
set_option maxHeartbeats 3200000 in
theorem reckon17 (x y b : Int) (hx : fit64 x) (hy : fit64 y) (w : World) : Calls Tryd.prog 27 #[.int .i64 17, .int .i64 x, .int .i64 y, .int .i64 b] w fun e w' => e = .returned (.tuple #[.int .i64 (rkV 17 x y b), .int .i64 (rkF 17 y)]) ∧ w' = w := by
  rw [show rkV 17 x y b = wholeX x from rfl, show rkF 17 y = 0 from rfl]
  have HC := hid (rwhole_any x hx.1 hx.2)
  generalize wholeX x = z at *
  clear hx hy
  go_enter Tryd.func27, Tryd.ntmps27
  go_wp2_with fail
  refine (HC.out _).mono ?_
  rintro e w1 ⟨rfl, rfl⟩
  go_wp2
  go_ret2
  exact ⟨rfl, rfl⟩

theorem FiveAt.alloc {w : World} {g : Nat} {o : Obj} {x0 x1 x2 x3 x4 : Value} (h : FiveAt w g x0 x1 x2 x3 x4) : FiveAt (w.alloc o) g x0 x1 x2 x3 x4 := h.below (alloc_belowI w o) h.1
end Go.Proofs.YtedldckijblnhaaDoor
