/-
  What the small tests of package tables return, whatever they are given, and that nothing that was there is written.
-/
import Derived.Test.YtfdoejdnhogepaaRows
import Derived.Test.YtfdoejdnhogepaaTReg
import Derived.Test.YtfdoejdnhogepaaLLib
namespace Go.Proofs.Ytfdoejdnhogepaa
open Go.RowKit
set_option linter.unusedVariables false

theorem BoxAt.set2 {w : World} {g : Nat} {t : TypeId} {a b : Value} (h : BoxAt w g t #[a, b]) (x y : Value) :
    BoxAt ((w.setCell ⟨g, 0, none⟩ x).setCell ⟨g, 1, none⟩ y) g t #[x, y] := by
  have := (h.set 0 x).set 1 y
  simpa using this
theorem BoxAt.set2o {w : World} {g g' : Nat} {t : TypeId} {cs : Array Value} (h : BoxAt w g t cs) (hg : g ≠ g') (x y : Value) :
    BoxAt ((w.setCell ⟨g', 0, none⟩ x).setCell ⟨g', 1, none⟩ y) g t cs := (h.other hg x).other hg y

theorem BoxAt.new1 (w : World) (o : Obj) (t : TypeId) (cs : Array Value) : BoxAt ((w.alloc o).alloc (.cells cs t)) (w.heap.size + 1) t cs := by
  have := BoxAt.new (w.alloc o) t cs
  simpa using this
theorem BoxAt.new2 (w : World) (o o' : Obj) (t : TypeId) (cs : Array Value) : BoxAt (((w.alloc o).alloc o').alloc (.cells cs t)) (w.heap.size + 2) t cs := by
  have := BoxAt.new ((w.alloc o).alloc o') t cs
  simpa using this

/-- A number from a to b. -/
def inB (a b n : Int) : Bool := decide (a ≤ n ∧ n ≤ b)
def spV (a b : Int) : Value := .agg #[.int .i64 a, .int .i64 b]

set_option maxRecDepth 100000 in
set_option maxHeartbeats 400000 in
theorem span_any (a b n : Int) (w : World) :
    Calls Try.prog 42 #[spV a b, .int .i64 n] w fun e w' => e = .returned (.bool (inB a b n)) ∧ Below w.heap.size w w' := by
  unfold spV
  go_enter Try.func42, Try.ntmps42
  by_cases h1 : a ≤ n
  · by_cases h2 : n ≤ b
    all_goals
      go_wp2
      go_ret
      exact ⟨by congr; simp [inB]; omega, (Below.refl _ _).alloc (Nat.le_refl _) _⟩
  · go_wp2
    go_ret
    exact ⟨by congr; simp [inB]; omega, (Below.refl _ _).alloc (Nat.le_refl _) _⟩

def procB (p : Pc) : Bool := inB 0 15 p.pr && inB 0 4096 p.pe && inB 0 4096 p.li && inB 0 63 p.en
def bufB (b : Bc) : Bool := inB 1 8 b.d
def semB (s : Sc) : Bool := inB 1 8 s.mo && inB 0 s.mo s.co

set_option maxRecDepth 100000 in
set_option maxHeartbeats 400000 in
theorem bufMay_any (b : Bc) (w : World) :
    Calls Try.prog 80 #[b.val] w fun e w' => e = .returned (.bool (bufB b)) ∧ Below w.heap.size w w' := by
  obtain ⟨d, ra⟩ := b
  unfold Bc.val
  go_enter Try.func80, Try.ntmps80
  go_wp2_with (go_at_call 42; refine (span_any 1 8 d _).mono ?_; rintro e w1 ⟨rfl, hb⟩)
  go_ret
  exact ⟨rfl, ((Below.refl _ _).alloc (Nat.le_refl _) _).trans (hb.mono (by simp))⟩

set_option maxRecDepth 100000 in
set_option maxHeartbeats 400000 in
theorem semMay_any (s : Sc) (w : World) :
    Calls Try.prog 82 #[s.val] w fun e w' => e = .returned (.bool (semB s)) ∧ Below w.heap.size w w' := by
  obtain ⟨co, mo, ra⟩ := s
  unfold Sc.val
  go_enter Try.func82, Try.ntmps82
  go_wp2_with fail
  refine (span_any 1 8 mo _).mono ?_
  rintro e w1 ⟨rfl, hb⟩
  have B0 : BoxAt w1 w.heap.size 106 #[.int .i64 co, .int .i64 mo, .bool ra] := (BoxAt.new w _ _).belowAll hb
  have c0 := (B0.cell 0).trans rfl
  have c1 := (B0.cell 1).trans rfl
  have hB : Below w.heap.size w w1 := ((Below.refl _ _).alloc (Nat.le_refl _) _).trans (hb.mono (by simp))
  clear hb B0
  rcases h1 : inB 1 8 mo
  · go_wp2
    go_ret
    exact ⟨by simp [semB, h1], hB⟩
  · go_wp2_with fail
    refine (span_any 0 mo co _).mono ?_
    rintro e w2 ⟨rfl, hb2⟩
    go_wp2
    go_ret
    exact ⟨by simp [semB, h1], hB.trans (hb2.mono hB.size)⟩
set_option maxRecDepth 100000 in
set_option maxHeartbeats 800000 in
theorem procMay_any (p : Pc) (w : World) :
    Calls Try.prog 78 #[p.val] w fun e w' => e = .returned (.bool (procB p)) ∧ Below w.heap.size w w' := by
  obtain ⟨pr, pe, li, en, au⟩ := p
  unfold Pc.val
  go_enter Try.func78, Try.ntmps78
  go_wp2_with fail
  refine (span_any 0 15 pr _).mono ?_
  rintro e w1 ⟨rfl, hb⟩
  have B0 : BoxAt w1 w.heap.size 90 #[.int .i64 pr, .int .i64 pe, .int .i64 li, .int .i64 en, .bool au] := ((BoxAt.new w _ _).alloc _).belowAll hb
  have B1 : BoxAt w1 (w.heap.size + 1) 73 #[.int .i64 0, .int .i64 4096] := (BoxAt.new1 w _ _ _).belowAll hb
  have hB : Below w.heap.size w w1 := (((Below.refl _ _).alloc (Nat.le_refl _) _).alloc (by simp) _).trans (hb.mono (by simp; omega))
  clear hb
  rcases h1 : inB 0 15 pr
  · go_wp2
    go_ret
    exact ⟨by simp [procB, h1], hB⟩
  · have c1 := (B0.cell 1).trans rfl
    have d0 := (B1.cell 0).trans rfl
    have d1 := (B1.cell 1).trans rfl
    go_wp2_with fail
    refine (span_any 0 4096 pe _).mono ?_
    rintro e w2 ⟨rfl, hb⟩
    replace B0 := B0.belowAll hb
    replace B1 := B1.belowAll hb
    replace hB := hB.trans (hb.mono hB.size)
    clear hb c1 d0 d1
    rcases h2 : inB 0 4096 pe
    · go_wp2
      go_ret
      exact ⟨by simp [procB, h1, h2], hB⟩
    · have c1 := (B0.cell 2).trans rfl
      have d0 := (B1.cell 0).trans rfl
      have d1 := (B1.cell 1).trans rfl
      go_wp2_with fail
      refine (span_any 0 4096 li _).mono ?_
      rintro e w3 ⟨rfl, hb⟩
      replace B0 := B0.belowAll hb
      replace B1 := B1.belowAll hb
      replace hB := hB.trans (hb.mono hB.size)
      clear hb c1 d0 d1
      rcases h3 : inB 0 4096 li
      · go_wp2
        go_ret
        exact ⟨by simp [procB, h1, h2, h3], hB⟩
      · have c1 := (B0.cell 3).trans rfl
        go_wp2_with fail
        refine (span_any 0 63 en _).mono ?_
        rintro e w4 ⟨rfl, hb⟩
        replace hB := hB.trans (hb.mono hB.size)
        clear hb c1
        go_wp2
        go_ret
        exact ⟨by simp [procB, h1, h2, h3], hB⟩
end Go.Proofs.Ytfdoejdnhogepaa
