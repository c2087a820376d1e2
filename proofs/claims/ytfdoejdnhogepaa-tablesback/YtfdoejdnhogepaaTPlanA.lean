/-
  What the tests of a part's number, and of a window, return, whatever they are given, and that nothing that was there is written.
-/
import Derived.Test.YtfdoejdnhogepaaTSpan
import Derived.BigGuard
import Derived.BigCall
namespace Go.Proofs.Ytfdoejdnhogepaa
open Go.RowKit
set_option linter.unusedVariables false

/-- A configuration's value: its numbers, and where its lists lie. -/
structure Cv where
  fr : Int
  sw : Int
  l : Sl
  p : Sl
  w : Sl
  c : Sl
def Cv.val (q : Cv) : Value := .agg #[.int .i64 q.fr, .int .i64 q.sw, .slice q.l.a q.l.n q.l.c, .slice q.p.a q.p.n q.p.c, .slice q.w.a q.w.n q.w.c, .slice q.c.a q.c.n q.c.c]

theorem Try.infoSp : (Try.prog.info? 73).map (·.size) = some 2 := by kernel_rfl

set_option maxRecDepth 100000 in
set_option maxHeartbeats 400000 in
theorem numsP_any (a : Option Addr) (n c : Nat) (hn : n ≤ 9223372036854775807) (w : World) :
    Calls Try.prog 83 #[.slice a n c] w fun e w' => e = .returned (spV 0 ((n : Int) - 1)) ∧ Below w.heap.size w w' := by
  go_enter Try.func83, Try.ntmps83
  go_wp2
  refine bodyPost_ret (results_cell_row rfl _ _ w.heap.size 73 _ (0, 0) _ rfl (BoxAt.new w _ _) Try.underlying73 rfl Try.infoSp) rfl ?_
  exact ⟨rfl, (Below.refl _ _).alloc (Nat.le_refl _) _⟩

set_option maxRecDepth 100000 in
set_option maxHeartbeats 400000 in
theorem numsI_any (a : Option Addr) (n c : Nat) (hn : n ≤ 9223372036854775807) (w : World) :
    Calls Try.prog 101 #[.slice a n c] w fun e w' => e = .returned (spV 0 ((n : Int) - 1)) ∧ Below w.heap.size w w' := by
  go_enter Try.func101, Try.ntmps101
  go_wp2
  refine bodyPost_ret (results_cell_row rfl _ _ w.heap.size 73 _ (0, 0) _ rfl (BoxAt.new w _ _) Try.underlying73 rfl Try.infoSp) rfl ?_
  exact ⟨rfl, (Below.refl _ _).alloc (Nat.le_refl _) _⟩

set_option maxRecDepth 100000 in
set_option maxHeartbeats 400000 in
theorem hasPart_any (q : Cv) (hn : q.p.n ≤ 9223372036854775807) (k : Int) (w : World) :
    Calls Try.prog 46 #[q.val, .int .i64 k] w fun e w' => e = .returned (.bool (inB 0 ((q.p.n : Int) - 1) k)) ∧ Below w.heap.size w w' := by
  obtain ⟨fr, sw, ⟨a1, n1, k1⟩, ⟨a2, n2, k2⟩, ⟨a3, n3, k3⟩, ⟨a4, n4, k4⟩⟩ := q
  simp only at hn
  unfold Cv.val
  go_enter Try.func46, Try.ntmps46
  go_wp2_with fail
  refine (numsP_any a2 n2 k2 hn _).mono ?_
  rintro e w1 ⟨rfl, hb⟩
  have hB : Below w.heap.size w w1 := ((Below.refl _ _).alloc (Nat.le_refl _) _).trans (hb.mono (by simp))
  clear hb
  go_wp2_with fail
  refine (span_any 0 ((n2 : Int) - 1) k _).mono ?_
  rintro e w2 ⟨rfl, hb⟩
  replace hB := hB.trans (hb.mono hB.size)
  clear hb
  go_wp2
  go_ret
  exact ⟨rfl, hB⟩

def winB (fr : Int) (n : Nat) (v : Wn) : Bool := inB 0 ((n : Int) - 1) v.p && inB 0 fr v.st && inB 1 (fr - v.st) v.ln

set_option maxRecDepth 100000 in
set_option maxHeartbeats 800000 in
theorem windowMay_any (q : Cv) (hn : q.p.n ≤ 9223372036854775807) (hf : q.fr ≤ 9223372036854775807) (v : Wn) (w : World) :
    Calls Try.prog 48 #[q.val, v.val] w fun e w' => e = .returned (.bool (winB q.fr q.p.n v)) ∧ Below w.heap.size w w' := by
  obtain ⟨fr, sw, ⟨a1, n1, k1⟩, ⟨a2, n2, k2⟩, ⟨a3, n3, k3⟩, ⟨a4, n4, k4⟩⟩ := q
  obtain ⟨vp, vs, vl⟩ := v
  simp only at hn hf
  unfold Cv.val Wn.val
  go_enter Try.func48, Try.ntmps48
  go_wp2_with fail
  refine (hasPart_any ⟨fr, sw, ⟨a1, n1, k1⟩, ⟨a2, n2, k2⟩, ⟨a3, n3, k3⟩, ⟨a4, n4, k4⟩⟩ hn vp _).mono ?_
  rintro e w1 ⟨rfl, hb⟩
  have B0 : BoxAt w1 w.heap.size 77 #[.int .i64 fr, .int .i64 sw, .slice a1 n1 k1, .slice a2 n2 k2, .slice a3 n3 k3, .slice a4 n4 k4] := ((BoxAt.new w _ _).alloc _).belowAll hb
  have B1 : BoxAt w1 (w.heap.size + 1) 39 #[.int .i64 vp, .int .i64 vs, .int .i64 vl] := (BoxAt.new1 w _ _ _).belowAll hb
  have hB : Below w.heap.size w w1 := (((Below.refl _ _).alloc (Nat.le_refl _) _).alloc (by simp) _).trans (hb.mono (by simp; omega))
  replace B0 := hid B0
  replace B1 := hid B1
  clear hb
  simp only
  rcases h1 : inB 0 ((n2 : Int) - 1) vp
  · go_wp2
    go_ret
    exact ⟨by simp [winB, h1], hB⟩
  have c0 := (B0.out.cell 0).trans rfl
  have d1 := (B1.out.cell 1).trans rfl
  go_wp2_with fail
  refine (span_any 0 fr vs _).mono ?_
  rintro e w2 ⟨rfl, hb⟩
  replace B0 := hid (B0.out.belowAll hb)
  replace B1 := hid (B1.out.belowAll hb)
  replace hB := hB.trans (hb.mono hB.size)
  clear hb c0 d1
  rcases h2 : inB 0 fr vs
  · go_wp2
    go_ret
    exact ⟨by simp [winB, h1, h2], hB⟩
  have c0 := (B0.out.cell 0).trans rfl
  have d1 := (B1.out.cell 1).trans rfl
  have d2 := (B1.out.cell 2).trans rfl
  have hv0 : 0 ≤ vs := by simp [inB] at h2; omega
  have hv1 : vs ≤ fr := by simp [inB] at h2; omega
  go_wp2_with fail
  refine (span_any 1 (fr - vs) vl _).mono ?_
  rintro e w3 ⟨rfl, hb⟩
  replace hB := hB.trans (hb.mono hB.size)
  clear hb c0 d1 d2 B0 B1
  go_wp2
  go_ret
  exact ⟨by simp [winB, h1, h2], hB⟩
end Go.Proofs.Ytfdoejdnhogepaa
