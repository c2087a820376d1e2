/-
  What the small functions of the document for one instruction return; what stands where it has asked whether it may be.
-/
import Derived.Test.YtedldckijblnhaaDoorCStep2
import Derived.Test.YtedldckijblnhaaDoorRRef2
import Derived.Test.YtedldckijblnhaaDoorMRef2
import Derived.Test.YtedldckijblnhaaDoorIRefD
namespace Go.Proofs.YtedldckijblnhaaDoor
open Go.RowKit
set_option linter.unusedVariables false

set_option maxRecDepth 100000 in
set_option maxHeartbeats 3200000 in
theorem bit_any (b : Bool) (w : World) : Calls Tryd.prog 38 #[.bool b] w fun e w' => e = .returned (.int .i64 (bitZ b)) ∧ w' = w := by
  cases b
  · go_enter Tryd.func38, Tryd.ntmps38
    go_wp2
    go_ret
    exact ⟨rfl, rfl⟩
  · go_enter Tryd.func38, Tryd.ntmps38
    go_wp2
    go_ret
    exact ⟨rfl, rfl⟩

def wrongF (e : Int) : Int := if e = 0 then 0 else 5

set_option maxRecDepth 100000 in
set_option maxHeartbeats 3200000 in
theorem wrong_any (e : Int) (w : World) : Calls Tryd.prog 25 #[.int .i64 e] w fun r w' => r = .returned (.int .i64 (wrongF e)) ∧ w' = w := by
  by_cases h : e = 0
  · subst h
    go_enter Tryd.func25, Tryd.ntmps25
    go_wp2
    go_ret
    exact ⟨rfl, rfl⟩
  · have h' : (e != 0) = true := by simpa using h
    rw [show wrongF e = 5 by unfold wrongF; rw [if_neg h]]
    go_enter Tryd.func25, Tryd.ntmps25
    go_wp2
    go_ret
    exact ⟨rfl, rfl⟩

def rkV (k : Nat) (x y b : Int) : Int := if k = 1 then b else opV k x y
def rkF (k : Nat) (y : Int) : Int := if k = 6 then df y else 0

theorem rload_few (vm vl : Value) (m : List Int) (l : List Rg) (k : Int) (w : World) (hm : Sees w .i64 vm m) (hv : SeesR w vl l) (hf : l.all fewR = true) :
    Calls Tryd.prog 24 #[vm, vl, .int .i64 k] w fun e w' => e = .returned (.tuple #[.int .i64 (loadV m l k), .int .i64 (touchE m.length l k false)]) ∧ Below w.heap.size w w' := by
  have h := rload_any vm vl m l k w hm hv
  unfold rloadV at h
  rw [touch_same m.length l k false hf] at h
  exact h
theorem rstore_few (vm vl : Value) (m : List Int) (l : List Rg) (k x : Int) (w : World) (hm : Sees w .i64 vm m) (hv : SeesR w vl l) (hlen : m.length ≤ 100000) (hf : l.all fewR = true) :
    Calls Tryd.prog 26 #[vm, vl, .int .i64 k, .int .i64 x] w fun e w' => ∃ u, e = .returned (.tuple #[u, .int .i64 (touchE m.length l k true)]) ∧
      w'.ownsRow w.heap.size 3 1 u (storeL m l k x).length ((storeL m l k x).map (Value.int .i64)) ∧ Below w.heap.size w w' := by
  have h := rstore_any vm vl m l k x w hm hv hlen
  unfold rstoreL at h
  rw [touch_same m.length l k true hf] at h
  exact h

set_option maxRecDepth 100000 in
set_option maxHeartbeats 3200000 in
theorem reckon1 (x y b : Int) (hx : fit64 x) (hy : fit64 y) (w : World) : Calls Tryd.prog 27 #[.int .i64 1, .int .i64 x, .int .i64 y, .int .i64 b] w fun e w' => e = .returned (.tuple #[.int .i64 (rkV 1 x y b), .int .i64 (rkF 1 y)]) ∧ w' = w := by
  rw [show rkV 1 x y b = b from rfl, show rkF 1 y = 0 from rfl]
  clear hx hy
  go_enter Tryd.func27, Tryd.ntmps27
  go_wp2
  go_ret2
  exact ⟨rfl, rfl⟩

set_option maxRecDepth 100000 in
set_option maxHeartbeats 3200000 in
theorem reckon2 (x y b : Int) (hx : fit64 x) (hy : fit64 y) (w : World) : Calls Tryd.prog 27 #[.int .i64 2, .int .i64 x, .int .i64 y, .int .i64 b] w fun e w' => e = .returned (.tuple #[.int .i64 (rkV 2 x y b), .int .i64 (rkF 2 y)]) ∧ w' = w := by
  rw [show rkV 2 x y b = opV 2 x y from rfl, show rkF 2 y = 0 from rfl]
  simp only [opV]
  clear hx hy
  go_enter Tryd.func27, Tryd.ntmps27
  go_wp2
  go_ret2
  exact ⟨rfl, rfl⟩

set_option maxRecDepth 100000 in
set_option maxHeartbeats 3200000 in
theorem reckon3 (x y b : Int) (hx : fit64 x) (hy : fit64 y) (w : World) : Calls Tryd.prog 27 #[.int .i64 3, .int .i64 x, .int .i64 y, .int .i64 b] w fun e w' => e = .returned (.tuple #[.int .i64 (rkV 3 x y b), .int .i64 (rkF 3 y)]) ∧ w' = w := by
  rw [show rkV 3 x y b = opV 3 x y from rfl, show rkF 3 y = 0 from rfl]
  simp only [opV]
  clear hx hy
  go_enter Tryd.func27, Tryd.ntmps27
  go_wp2
  go_ret2
  exact ⟨by simp [wrap64], rfl⟩

set_option maxRecDepth 100000 in
set_option maxHeartbeats 3200000 in
theorem reckon4 (x y b : Int) (hx : fit64 x) (hy : fit64 y) (w : World) : Calls Tryd.prog 27 #[.int .i64 4, .int .i64 x, .int .i64 y, .int .i64 b] w fun e w' => e = .returned (.tuple #[.int .i64 (rkV 4 x y b), .int .i64 (rkF 4 y)]) ∧ w' = w := by
  rw [show rkV 4 x y b = opV 4 x y from rfl, show rkF 4 y = 0 from rfl]
  simp only [opV]
  clear hx hy
  go_enter Tryd.func27, Tryd.ntmps27
  go_wp2
  go_ret2
  exact ⟨by simp [wrap64], rfl⟩

set_option maxRecDepth 100000 in
set_option maxHeartbeats 3200000 in
theorem reckon5 (x y b : Int) (hx : fit64 x) (hy : fit64 y) (w : World) : Calls Tryd.prog 27 #[.int .i64 5, .int .i64 x, .int .i64 y, .int .i64 b] w fun e w' => e = .returned (.tuple #[.int .i64 (rkV 5 x y b), .int .i64 (rkF 5 y)]) ∧ w' = w := by
  rw [show rkV 5 x y b = opV 5 x y from rfl, show rkF 5 y = 0 from rfl]
  simp only [opV]
  clear hx hy
  go_enter Tryd.func27, Tryd.ntmps27
  go_wp2
  go_ret2
  exact ⟨by simp [wrap64], rfl⟩

set_option maxRecDepth 100000 in
set_option maxHeartbeats 3200000 in
theorem reckon6 (x y b : Int) (hx : fit64 x) (hy : fit64 y) (w : World) : Calls Tryd.prog 27 #[.int .i64 6, .int .i64 x, .int .i64 y, .int .i64 b] w fun e w' => e = .returned (.tuple #[.int .i64 (rkV 6 x y b), .int .i64 (rkF 6 y)]) ∧ w' = w := by
  rw [show rkV 6 x y b = dq x y from rfl, show rkF 6 y = df y from rfl]
  have HC := hid (rdiv_any x y)
  generalize dq x y = z at *
  generalize df y = z2 at *
  clear hx hy
  go_enter Tryd.func27, Tryd.ntmps27
  go_wp2_with fail
  refine (HC.out _).mono ?_
  rintro e w1 ⟨rfl, rfl⟩
  go_wp2
  go_ret2
  exact ⟨rfl, rfl⟩

set_option maxRecDepth 100000 in
set_option maxHeartbeats 3200000 in
theorem reckon7 (x y b : Int) (hx : fit64 x) (hy : fit64 y) (w : World) : Calls Tryd.prog 27 #[.int .i64 7, .int .i64 x, .int .i64 y, .int .i64 b] w fun e w' => e = .returned (.tuple #[.int .i64 (rkV 7 x y b), .int .i64 (rkF 7 y)]) ∧ w' = w := by
  rw [show rkV 7 x y b = opV 7 x y from rfl, show rkF 7 y = 0 from rfl]
  simp only [opV]
  clear hx hy
  go_enter Tryd.func27, Tryd.ntmps27
  go_wp2_with fail
  refine (bit_any _ _).mono ?_
  rintro e w1 ⟨rfl, rfl⟩
  go_wp2
  go_ret2
  exact ⟨rfl, rfl⟩

set_option maxRecDepth 100000 in
set_option maxHeartbeats 3200000 in
theorem reckon12 (x y b : Int) (hx : fit64 x) (hy : fit64 y) (w : World) : Calls Tryd.prog 27 #[.int .i64 12, .int .i64 x, .int .i64 y, .int .i64 b] w fun e w' => e = .returned (.tuple #[.int .i64 (rkV 12 x y b), .int .i64 (rkF 12 y)]) ∧ w' = w := by
  rw [show rkV 12 x y b = halfX x from rfl, show rkF 12 y = 0 from rfl]
  have HC := hid (rhalf_any x hx.1 hx.2)
  generalize halfX x = z at *
  clear hx hy
  go_enter Tryd.func27, Tryd.ntmps27
  go_wp2_with fail
  refine (HC.out _).mono ?_
  rintro e w1 ⟨rfl, rfl⟩
  go_wp2
  go_ret2
  exact ⟨rfl, rfl⟩

set_option maxRecDepth 100000 in
set_option maxHeartbeats 3200000 in
theorem reckon13 (x y b : Int) (hx : fit64 x) (hy : fit64 y) (w : World) : Calls Tryd.prog 27 #[.int .i64 13, .int .i64 x, .int .i64 y, .int .i64 b] w fun e w' => e = .returned (.tuple #[.int .i64 (rkV 13 x y b), .int .i64 (rkF 13 y)]) ∧ w' = w := by
  rw [show rkV 13 x y b = twiceX x from rfl, show rkF 13 y = 0 from rfl]
  have HC := hid (rtwice_any x hx.1 hx.2)
  generalize twiceX x = z at *
  clear hx hy
  go_enter Tryd.func27, Tryd.ntmps27
  go_wp2_with fail
  refine (HC.out _).mono ?_
  rintro e w1 ⟨rfl, rfl⟩
  go_wp2
  go_ret2
  exact ⟨rfl, rfl⟩

set_option maxRecDepth 100000 in
set_option maxHeartbeats 3200000 in
theorem reckon14 (x y b : Int) (hx : fit64 x) (hy : fit64 y) (w : World) : Calls Tryd.prog 27 #[.int .i64 14, .int .i64 x, .int .i64 y, .int .i64 b] w fun e w' => e = .returned (.tuple #[.int .i64 (rkV 14 x y b), .int .i64 (rkF 14 y)]) ∧ w' = w := by
  rw [show rkV 14 x y b = flipX x from rfl, show rkF 14 y = 0 from rfl]
  have HC := hid (rflip_any x hx.1 hx.2)
  generalize flipX x = z at *
  clear hx hy
  go_enter Tryd.func27, Tryd.ntmps27
  go_wp2_with fail
  refine (HC.out _).mono ?_
  rintro e w1 ⟨rfl, rfl⟩
  go_wp2
  go_ret2
  exact ⟨rfl, rfl⟩

set_option maxRecDepth 100000 in
set_option maxHeartbeats 3200000 in
theorem reckon15 (x y b : Int) (hx : fit64 x) (hy : fit64 y) (w : World) : Calls Tryd.prog 27 #[.int .i64 15, .int .i64 x, .int .i64 y, .int .i64 b] w fun e w' => e = .returned (.tuple #[.int .i64 (rkV 15 x y b), .int .i64 (rkF 15 y)]) ∧ w' = w := by
  rw [show rkV 15 x y b = bitZ (belowX x y) from rfl, show rkF 15 y = 0 from rfl]
  have HC := hid (rbelow_any x y hx.1 hx.2 hy.1 hy.2)
  generalize belowX x y = z at *
  clear hx hy
  go_enter Tryd.func27, Tryd.ntmps27
  go_wp2_with fail
  refine (HC.out _).mono ?_
  rintro e w1 ⟨rfl, rfl⟩
  go_wp2_with fail
  refine (bit_any _ _).mono ?_
  rintro e w2 ⟨rfl, rfl⟩
  go_wp2
  go_ret2
  exact ⟨rfl, rfl⟩

set_option maxRecDepth 100000 in
set_option maxHeartbeats 3200000 in
theorem reckon16 (x y b : Int) (hx : fit64 x) (hy : fit64 y) (w : World) : Calls Tryd.prog 27 #[.int .i64 16, .int .i64 x, .int .i64 y, .int .i64 b] w fun e w' => e = .returned (.tuple #[.int .i64 (rkV 16 x y b), .int .i64 (rkF 16 y)]) ∧ w' = w := by
  rw [show rkV 16 x y b = ofX x from rfl, show rkF 16 y = 0 from rfl]
  have HC := hid (rof_any x hx.1 hx.2)
  generalize ofX x = z at *
  clear hx hy
  go_enter Tryd.func27, Tryd.ntmps27
  go_wp2_with fail
  refine (HC.out _).mono ?_
  rintro e w1 ⟨rfl, rfl⟩
  go_wp2
  go_ret2
  exact ⟨rfl, rfl⟩

set_option maxRecDepth 100000 in
set_option maxHeartbeats 3200000 in
theorem reckon17 (x y b : Int) (hx : fit64 x) (hy : fit64 y) (w : World) : Calls Tryd.prog 27 #[.int .i64 17, .int .i64 x, .int .i64 y, .int .i64 b] w fun e w' => e = .returned (.tuple #[.int .i64 (rkV 17 x y b), .int .i64 (rkF 17 y)]) ∧ w' = w := by
  rw [show rkV 17 x y b = wholeX x from rfl, show rkF 17 y = 0 from rfl]
  have HC := hid (rwhole_any x hx.1 hx.2)
  generalize wholeX x = z at *
  clear hx hy
  go_enter Tryd.func27, Tryd.ntmps27
  go_wp2_with fail
  refine (HC.out _).mono ?_
  rintro e w1 ⟨rfl, rfl⟩
  go_wp2
  go_ret2
  exact ⟨rfl, rfl⟩

theorem FiveAt.alloc {w : World} {g : Nat} {o : Obj} {x0 x1 x2 x3 x4 : Value} (h : FiveAt w g x0 x1 x2 x3 x4) : FiveAt (w.alloc o) g x0 x1 x2 x3 x4 := h.below (alloc_belowI w o) h.1

/-- Four new blocks. -/
theorem five4 (w : World) (a0 a1 a2 a3 a4 b0 b1 b2 b3 b4 c0 c1 c2 c3 c4 d0 d1 d2 d3 d4 : Value) (ta tb tc td : TypeId) : FiveAt ((((w.alloc (.cells #[a0, a1, a2, a3, a4] ta)).alloc (.cells #[b0, b1, b2, b3, b4] tb)).alloc (.cells #[c0, c1, c2, c3, c4] tc)).alloc (.cells #[d0, d1, d2, d3, d4] td)) w.heap.size a0 a1 a2 a3 a4 ∧ FiveAt ((((w.alloc (.cells #[a0, a1, a2, a3, a4] ta)).alloc (.cells #[b0, b1, b2, b3, b4] tb)).alloc (.cells #[c0, c1, c2, c3, c4] tc)).alloc (.cells #[d0, d1, d2, d3, d4] td)) (w.heap.size + 1) b0 b1 b2 b3 b4 ∧
    FiveAt ((((w.alloc (.cells #[a0, a1, a2, a3, a4] ta)).alloc (.cells #[b0, b1, b2, b3, b4] tb)).alloc (.cells #[c0, c1, c2, c3, c4] tc)).alloc (.cells #[d0, d1, d2, d3, d4] td)) (w.heap.size + 1 + 1) c0 c1 c2 c3 c4 ∧ FiveAt ((((w.alloc (.cells #[a0, a1, a2, a3, a4] ta)).alloc (.cells #[b0, b1, b2, b3, b4] tb)).alloc (.cells #[c0, c1, c2, c3, c4] tc)).alloc (.cells #[d0, d1, d2, d3, d4] td)) (w.heap.size + 1 + 1 + 1) d0 d1 d2 d3 d4 ∧ ((((w.alloc (.cells #[a0, a1, a2, a3, a4] ta)).alloc (.cells #[b0, b1, b2, b3, b4] tb)).alloc (.cells #[c0, c1, c2, c3, c4] tc)).alloc (.cells #[d0, d1, d2, d3, d4] td)).heap.size = w.heap.size + 4 ∧ Below w.heap.size w ((((w.alloc (.cells #[a0, a1, a2, a3, a4] ta)).alloc (.cells #[b0, b1, b2, b3, b4] tb)).alloc (.cells #[c0, c1, c2, c3, c4] tc)).alloc (.cells #[d0, d1, d2, d3, d4] td)) := by
  have h1 : (w.alloc (.cells #[a0, a1, a2, a3, a4] ta)).heap.size = w.heap.size + 1 := by simp
  have h2 : ((w.alloc (.cells #[a0, a1, a2, a3, a4] ta)).alloc (.cells #[b0, b1, b2, b3, b4] tb)).heap.size = w.heap.size + 1 + 1 := by simp
  have h3 : (((w.alloc (.cells #[a0, a1, a2, a3, a4] ta)).alloc (.cells #[b0, b1, b2, b3, b4] tb)).alloc (.cells #[c0, c1, c2, c3, c4] tc)).heap.size = w.heap.size + 1 + 1 + 1 := by simp
  refine ⟨(five_new w _ _ _ _ _ _).alloc.alloc.alloc, ?_, ?_, ?_, by simp, ?_⟩
  · have h := (five_new (w.alloc (.cells #[a0, a1, a2, a3, a4] ta)) b0 b1 b2 b3 b4 tb).alloc (o := .cells #[c0, c1, c2, c3, c4] tc) |>.alloc (o := .cells #[d0, d1, d2, d3, d4] td)
    rw [h1] at h; exact h
  · have h := (five_new ((w.alloc (.cells #[a0, a1, a2, a3, a4] ta)).alloc (.cells #[b0, b1, b2, b3, b4] tb)) c0 c1 c2 c3 c4 tc).alloc (o := .cells #[d0, d1, d2, d3, d4] td)
    rw [h2] at h; exact h
  · have h := five_new (((w.alloc (.cells #[a0, a1, a2, a3, a4] ta)).alloc (.cells #[b0, b1, b2, b3, b4] tb)).alloc (.cells #[c0, c1, c2, c3, c4] tc)) d0 d1 d2 d3 d4 td
    rw [h3] at h; exact h
  · exact (((alloc_belowI _ _).alloc (by simp) _).alloc (by simp; omega) _).alloc (by simp; omega) _

set_option maxRecDepth 100000 in
set_option maxHeartbeats 3200000 in
theorem rs_out (vc vm vl : Value) (code : List In) (m : List Int) (l : List Rg) (p r0 r1 r2 r3 now : Int) (w : World) (hcv : SeesI w vc code) (hmv : Sees w .i64 vm m) (hlv : SeesR w vl l) (hbad : ¬ (0 ≤ p ∧ p < code.length)) :
    Calls Tryd.prog 13 #[vc, .agg #[.int .i64 p, .int .i64 r0, .int .i64 r1, .int .i64 r2, .int .i64 r3], vm, vl, .int .i64 now] w fun e w' => ∃ u, e = .returned (.tuple #[Co.val ⟨p, r0, r1, r2, r3⟩, u, Ou.val (faultO 4)]) ∧ SeesF w vm w' u m ∧ Below w.heap.size w w' := by
  have hp : p < 0 ∨ (0 ≤ p ∧ (code.length : Int) ≤ p) := by omega
  clear hbad
  obtain ⟨ac, cc, rfl, hc1, hc2, _⟩ := hcv.form
  unfold maxLen at hc2
  have HMV := hid hmv
  obtain ⟨am, cm, rfl, _, _, _⟩ := hmv.form
  obtain ⟨F0, F1, F2, F3, hsz, hbel⟩ := five4 w (.int .i64 p) (.int .i64 r0) (.int .i64 r1) (.int .i64 r2) (.int .i64 r3) (.int .i64 0) (.int .i64 0) (.int .i64 0) (.int .i64 0) (.int .i64 0) (.int .i64 0) (.int .i64 0) (.bool false) (.bool false) (.int .i64 0) (.int .i64 0) (.int .i64 (-1)) (.bool false) (.bool false) (.int .i64 0) 25 25 31 31
  obtain ⟨_, q0, a0, a1, a2, a3, a4⟩ := F0
  obtain ⟨_, q3, f0, f1, f2, f3, f4⟩ := F3
  clear hcv hlv hmv hbel hsz F1 F2
  rcases hp with hp | ⟨hp1, hp2⟩
  · go_enter Tryd.func13, Tryd.ntmps13
    go_wp2
    go_region
    all_goals
      go_wp2
      try simp only [Exit.inBlock, Exit.then]
      refine bodyPost_ret (results_step rfl _ _ _ ⟨w.heap.size + 1, 0, none⟩ ⟨w.heap.size + 1 + 1, 0, none⟩ _ _ rfl rfl ((five4 w _ _ _ _ _ _ _ _ _ _ _ _ _ _ _ _ _ _ _ _ _ _ _ _).2.1.drew.load 25 _ Tryd.underlying25 rfl (by kernel_rfl)) ((five4 w _ _ _ _ _ _ _ _ _ _ _ _ _ _ _ _ _ _ _ _ _ _ _ _).2.2.1.drew.load 31 _ Tryd.underlying31 rfl (by kernel_rfl))) rfl ?_
      exact ⟨_, rfl, ⟨HMV.out.below (five4 w _ _ _ _ _ _ _ _ _ _ _ _ _ _ _ _ _ _ _ _ _ _ _ _).2.2.2.2.2.drew, .inl rfl⟩, (five4 w _ _ _ _ _ _ _ _ _ _ _ _ _ _ _ _ _ _ _ _ _ _ _ _).2.2.2.2.2.drew⟩
  · go_enter Tryd.func13, Tryd.ntmps13
    go_wp2
    go_region
    all_goals
      go_wp2
      try simp only [Exit.inBlock, Exit.then]
      refine bodyPost_ret (results_step rfl _ _ _ ⟨w.heap.size + 1, 0, none⟩ ⟨w.heap.size + 1 + 1, 0, none⟩ _ _ rfl rfl ((five4 w _ _ _ _ _ _ _ _ _ _ _ _ _ _ _ _ _ _ _ _ _ _ _ _).2.1.drew.load 25 _ Tryd.underlying25 rfl (by kernel_rfl)) ((five4 w _ _ _ _ _ _ _ _ _ _ _ _ _ _ _ _ _ _ _ _ _ _ _ _).2.2.1.drew.load 31 _ Tryd.underlying31 rfl (by kernel_rfl))) rfl ?_
      exact ⟨_, rfl, ⟨HMV.out.below (five4 w _ _ _ _ _ _ _ _ _ _ _ _ _ _ _ _ _ _ _ _ _ _ _ _).2.2.2.2.2.drew, .inl rfl⟩, (five4 w _ _ _ _ _ _ _ _ _ _ _ _ _ _ _ _ _ _ _ _ _ _ _ _).2.2.2.2.2.drew⟩

/-- What stands where the document's Step has asked whether the instruction may be. -/
def Asked (w w1 : World) (p r0 r1 r2 r3 o A B : Int) (G1 G2 G3 G4 : Nat) : Prop := FiveAt w1 w.heap.size (.int .i64 p) (.int .i64 r0) (.int .i64 r1) (.int .i64 r2) (.int .i64 r3) ∧ FiveAt w1 G1 (.int .i64 0) (.int .i64 0) (.int .i64 0) (.int .i64 0) (.int .i64 0) ∧ FiveAt w1 G2 (.int .i64 0) (.int .i64 0) (.bool false) (.bool false) (.int .i64 0) ∧ FiveAt w1 G3 (.int .i64 0) (.int .i64 (-1)) (.bool false) (.bool false) (.int .i64 0) ∧
  (w1.cell? ⟨G4, 0, none⟩ = some (.int .i64 o) ∧ w1.cell? ⟨G4, 1, none⟩ = some (.int .i64 A) ∧ w1.cell? ⟨G4, 2, none⟩ = some (.int .i64 B)) ∧ G4 < w1.heap.size ∧ Below w.heap.size w w1

theorem new3 (w : World) (x y z : Value) (t : TypeId) : (w.alloc (.cells #[x, y, z] t)).cell? ⟨w.heap.size, 0, none⟩ = some x ∧ (w.alloc (.cells #[x, y, z] t)).cell? ⟨w.heap.size, 1, none⟩ = some y ∧ (w.alloc (.cells #[x, y, z] t)).cell? ⟨w.heap.size, 2, none⟩ = some z := ⟨by simp, by simp, by simp⟩
theorem asked (w W w1 : World) (p r0 r1 r2 r3 o A B : Int) (G1 G2 G3 : Nat) (F0 : FiveAt W w.heap.size (.int .i64 p) (.int .i64 r0) (.int .i64 r1) (.int .i64 r2) (.int .i64 r3)) (F1 : FiveAt W G1 (.int .i64 0) (.int .i64 0) (.int .i64 0) (.int .i64 0) (.int .i64 0)) (F2 : FiveAt W G2 (.int .i64 0) (.int .i64 0) (.bool false) (.bool false) (.int .i64 0)) (F3 : FiveAt W G3 (.int .i64 0) (.int .i64 (-1)) (.bool false) (.bool false) (.int .i64 0)) (hbel : Below w.heap.size w W) (hs : w.heap.size ≤ W.heap.size)
    (hb : Below (W.alloc (.cells #[.int .i64 o, .int .i64 A, .int .i64 B] 44)).heap.size (W.alloc (.cells #[.int .i64 o, .int .i64 A, .int .i64 B] 44)) w1) : Asked w w1 p r0 r1 r2 r3 o A B G1 G2 G3 W.heap.size := by
  have hb' : Below W.heap.size W w1 := (alloc_belowI _ _).trans (hb.mono (by simp))
  have hg : W.heap.size < (W.alloc (.cells #[.int .i64 o, .int .i64 A, .int .i64 B] 44)).heap.size := by simp
  have hss := hb.size
  refine ⟨F0.below hb' F0.1, F1.below hb' F1.1, F2.below hb' F2.1, F3.below hb' F3.1, ⟨?_, ?_, ?_⟩, by omega, hbel.trans (hb'.mono hs)⟩
  · rw [hb.cell (by exact hg)]; exact (new3 _ _ _ _ _).1
  · rw [hb.cell (by exact hg)]; exact (new3 _ _ _ _ _).2.1
  · rw [hb.cell (by exact hg)]; exact (new3 _ _ _ _ _).2.2

theorem Asked.below {w w1 w2 : World} {p r0 r1 r2 r3 o A B : Int} {G1 G2 G3 G4 : Nat} (h : Asked w w1 p r0 r1 r2 r3 o A B G1 G2 G3 G4) (hb : Below w1.heap.size w1 w2) (hs : w.heap.size ≤ w1.heap.size) : Asked w w2 p r0 r1 r2 r3 o A B G1 G2 G3 G4 := by
  obtain ⟨F0, F1, F2, F3, ⟨i0, i1, i2⟩, hg, hbel⟩ := h
  have := hb.size
  exact ⟨F0.below hb F0.1, F1.below hb F1.1, F2.below hb F2.1, F3.below hb F3.1, ⟨(hb.cell (by exact hg)).trans i0, (hb.cell (by exact hg)).trans i1, (hb.cell (by exact hg)).trans i2⟩, by omega, hbel.trans (hb.mono hs)⟩
theorem five_reg {w : World} {g : Nat} {p r0 r1 r2 r3 : Int} (h : FiveAt w g (.int .i64 p) (.int .i64 r0) (.int .i64 r1) (.int .i64 r2) (.int .i64 r3)) (k : Nat) (hk : k < 4) : w.cell? ⟨g, 1 + k, none⟩ = some (.int .i64 (Co.reg ⟨p, r0, r1, r2, r3⟩ k)) := by
  obtain ⟨_, _, h2, h3, h4, h5, h6⟩ := h
  match k, hk with
  | 0, _ => exact h3
  | 1, _ => exact h4
  | 2, _ => exact h5
  | 3, _ => exact h6

/-- Five cells lie there. -/
def ThereAt (w : World) (g : Nat) : Prop := ∃ x0 x1 x2 x3 x4, FiveAt w g x0 x1 x2 x3 x4
theorem ThereAt.of {w : World} {g : Nat} {x0 x1 x2 x3 x4 : Value} (h : FiveAt w g x0 x1 x2 x3 x4) : ThereAt w g := ⟨_, _, _, _, _, h⟩
theorem ThereAt.drew {w : World} {g : Nat} (h : ThereAt w g) : ThereAt w.drew g := by obtain ⟨_, _, _, _, _, h⟩ := h; exact .of h.drew
theorem ThereAt.alloc {w : World} {g : Nat} {o : Obj} (h : ThereAt w g) : ThereAt (w.alloc o) g := by obtain ⟨_, _, _, _, _, h⟩ := h; exact .of h.alloc
theorem ThereAt.other {w : World} {g g' j : Nat} {v : Value} (h : ThereAt w g) (hg : g ≠ g') : ThereAt (w.setCell ⟨g', j, none⟩ v) g := by obtain ⟨_, _, _, _, _, h⟩ := h; exact .of (h.other hg)
theorem ThereAt.other5 {w : World} {g g' : Nat} {v0 v1 v2 v3 v4 : Value} (h : ThereAt w g') (e : g' ≠ g) : ThereAt (((((w.setCell ⟨g, 0, none⟩ v0).setCell ⟨g, 1, none⟩ v1).setCell ⟨g, 2, none⟩ v2).setCell ⟨g, 3, none⟩ v3).setCell ⟨g, 4, none⟩ v4) g' := by obtain ⟨_, _, _, _, _, h⟩ := h; exact .of (h.other5 e)
theorem FiveAt.setT {w : World} {g : Nat} {v0 v1 v2 v3 v4 : Value} (h : ThereAt w g) : FiveAt (((((w.setCell ⟨g, 0, none⟩ v0).setCell ⟨g, 1, none⟩ v1).setCell ⟨g, 2, none⟩ v2).setCell ⟨g, 3, none⟩ v3).setCell ⟨g, 4, none⟩ v4) g v0 v1 v2 v3 v4 := by obtain ⟨_, _, _, _, _, h⟩ := h; exact h.set5
theorem belowG {B g j : Nat} {a w : World} {v : Value} (h : Below B a w) (hg : B ≤ g) : Below B a (w.setCell ⟨g, j, none⟩ v) := h.setCell hg _
theorem belowA {a w : World} {o : Obj} (h : Below a.heap.size a w) : Below a.heap.size a (w.alloc o) := h.alloc h.size _
theorem owns_drew {w : World} {base : Nat} {e : TypeId} {v : Value} {n : Nat} {xs : List Value} (h : w.ownsRow base e 1 v n xs) : w.drew.ownsRow base e 1 v n xs := owns_below h (Below.refl w.heap.size w).drew
theorem owns_one {w : World} {base g j : Nat} {e : TypeId} {v x : Value} {n : Nat} {xs : List Value} (h : w.ownsRow base e 1 v n xs) (hg : g < base) : (w.setCell ⟨g, j, none⟩ x).ownsRow base e 1 v n xs := ownsRow_setCell_below h (a := ⟨g, j, none⟩) hg _
end Go.Proofs.YtedldckijblnhaaDoor
