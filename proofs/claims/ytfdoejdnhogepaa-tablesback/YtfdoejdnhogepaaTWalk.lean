/-
  A machine that is given numbers one by one; what the walks through a number, a flag return over it.
-/
import Derived.Test.YtfdoejdnhogepaaRows
import Derived.Test.YtfdoejdnhogepaaTMach
namespace Go.Proofs.Ytfdoejdnhogepaa
open Go.RowKit
set_option linter.unusedVariables false

/-- A machine: function g over block G is 'next'; nx says what it answers and what state it is in then; 'At' says how that lies in a world. -/
structure Mach (g G : Nat) (σ : Type) (nx : Int → Int → σ → Int × σ) (At : World → σ → Prop) (room : σ → Nat) : Prop where
  enters : ∀ args w, (callFunc g args).run Try.prog w = .ok (.enter g args) w
  live : ∀ w s, At w s → Live G w
  stable : ∀ w w' s, At w s → (∀ k, own G w k → w'.heap[k]? = w.heap[k]?) → At w' s
  mono : ∀ n m s, room s ≤ room (nx n m s).2
  few : ∀ n s, (nx n 64 s).1 ≤ 64 ∨ (nx n 64 s).1 ≤ n
  step : ∀ w s n m, At w s → room (nx n m s).2 ≤ 1000000 →
    Calls Try.prog g #[.pointer (some ⟨G, 0, none⟩), .int .i64 n, .int .i64 m] w fun e w' => e = .returned (.int .i64 (nx n m s).1) ∧ At w' (nx n m s).2 ∧ KB G w.heap.size w w'

theorem Mach.alloc {g G : Nat} {σ : Type} {nx : Int → Int → σ → Int × σ} {At : World → σ → Prop} {room : σ → Nat} (M : Mach g G σ nx At room) {w : World} {s : σ} (h : At w s) (o : Obj) : At (w.alloc o) s :=
  M.stable w _ s h (fun k hk => Below.heap_alloc w o k (M.live w s h k hk))
theorem Mach.set {g G : Nat} {σ : Type} {nx : Int → Int → σ → Int × σ} {At : World → σ → Prop} {room : σ → Nat} (M : Mach g G σ nx At room) {w : World} {s : σ} (h : At w s) {p : Addr} (hp : ¬ own G w p.block) (u : Value) : At (w.setCell p u) s :=
  M.stable w _ s h (fun k hk => Below.heap_setCell w p u k (fun e => hp (e ▸ hk)))
theorem Mach.grown {g G : Nat} {σ : Type} {nx : Int → Int → σ → Int × σ} {At : World → σ → Prop} {room : σ → Nat} (M : Mach g G σ nx At room) {w w' : World} {s : σ} (h : At w s) {row : Option Nat} (hg : w.grownBy w' row) (hr : ∀ k, row = some k → ¬ own G w k) : At w' s :=
  M.stable w _ s h (fun k hk => hg.block k (M.live w s h k hk) (fun e => hr k e.symm hk))

def walkV (g G : Nat) : Value := .agg #[.func (.func g) #[.pointer (some ⟨G, 0, none⟩)] #[]]

def numW {σ : Type} (nx : Int → Int → σ → Int × σ) (n : Int) (s : σ) : Int × σ := nx n 1099511627776 s
def bitI (b : Bool) : Int := if b then 1 else 0
def flagW {σ : Type} (nx : Int → Int → σ → Int × σ) (b : Bool) (s : σ) : Bool × σ := (decide ((nx (bitI b) 1 s).1 = 1), (nx (bitI b) 1 s).2)

set_option maxRecDepth 100000 in
set_option maxHeartbeats 400000 in
theorem numW_any {g G : Nat} {σ : Type} {nx : Int → Int → σ → Int × σ} {At : World → σ → Prop} {room : σ → Nat} (M : Mach g G σ nx At room) (n : Int) (s : σ) (w : World) (hA : At w s) (hr : room (numW nx n s).2 ≤ 1000000) :
    Calls Try.prog 60 #[walkV g G, .int .i64 n] w fun e w' => e = .returned (.int .i64 (numW nx n s).1) ∧ At w' (numW nx n s).2 ∧ KB G w.heap.size w w' := by
  have eg := M.enters
  have HM := hid M
  have HR := hid hr
  have HA := hid (M.alloc hA (.cells #[.func (.func g) #[.pointer (some ⟨G, 0, none⟩)] #[]] 63))
  have hK : KB G w.heap.size w (w.alloc (.cells #[.func (.func g) #[.pointer (some ⟨G, 0, none⟩)] #[]] 63)) := (KB.refl _ _ _).alloc (M.live w s hA) (Nat.le_refl _) _
  have HK := hid hK
  clear M hr hA hK
  unfold walkV
  go_enter Try.func60, Try.ntmps60
  go_wp2_with fail
  refine (HM.out.step _ s n 1099511627776 HA.out HR.out).mono ?_
  rintro e w1 ⟨rfl, hA1, hK1⟩
  have HE := hid (And.intro hA1 (HK.out.trans (hK1.mono (by simp))))
  clear hA1 hK1 HA HK HM HR
  go_wp2
  go_ret
  exact ⟨rfl, HE.out.1, HE.out.2⟩

set_option maxRecDepth 100000 in
set_option maxHeartbeats 400000 in
theorem flagW_any {g G : Nat} {σ : Type} {nx : Int → Int → σ → Int × σ} {At : World → σ → Prop} {room : σ → Nat} (M : Mach g G σ nx At room) (b : Bool) (s : σ) (w : World) (hA : At w s) (hr : room (flagW nx b s).2 ≤ 1000000) :
    Calls Try.prog 97 #[walkV g G, .bool b] w fun e w' => e = .returned (.bool (flagW nx b s).1) ∧ At w' (flagW nx b s).2 ∧ KB G w.heap.size w w' := by
  have eg := M.enters
  have HM := hid M
  have HR := hid hr
  have HA := hid (M.alloc hA (.cells #[.func (.func g) #[.pointer (some ⟨G, 0, none⟩)] #[]] 63))
  have hK : KB G w.heap.size w (w.alloc (.cells #[.func (.func g) #[.pointer (some ⟨G, 0, none⟩)] #[]] 63)) := (KB.refl _ _ _).alloc (M.live w s hA) (Nat.le_refl _) _
  have HK := hid hK
  clear M hr hA hK
  unfold walkV
  cases b
  · go_enter Try.func97, Try.ntmps97
    go_wp2_with fail
    refine (HM.out.step _ s _ 1 HA.out HR.out).mono ?_
    rintro e w1 ⟨rfl, hA1, hK1⟩
    have HE := hid (And.intro hA1 (HK.out.trans (hK1.mono (by simp))))
    clear hA1 hK1 HA HK HM HR
    obtain ⟨x, hx⟩ : ∃ x, nx (bitI false) 1 s = x := ⟨_, rfl⟩
    have HX := hid hx
    rw [hx]
    rw [hx] at HE
    clear hx
    by_cases h1 : x.1 = 1
    all_goals
      go_wp2
      go_ret
      exact ⟨by rw [flagW, HX.out]; simp [h1], by rw [flagW, HX.out]; exact HE.out.1, HE.out.2⟩
  · go_enter Try.func97, Try.ntmps97
    go_wp2_with fail
    refine (HM.out.step _ s _ 1 HA.out HR.out).mono ?_
    rintro e w1 ⟨rfl, hA1, hK1⟩
    have HE := hid (And.intro hA1 (HK.out.trans (hK1.mono (by simp))))
    clear hA1 hK1 HA HK HM HR
    obtain ⟨x, hx⟩ : ∃ x, nx (bitI true) 1 s = x := ⟨_, rfl⟩
    have HX := hid hx
    rw [hx]
    rw [hx] at HE
    clear hx
    by_cases h1 : x.1 = 1
    all_goals
      go_wp2
      go_ret
      exact ⟨by rw [flagW, HX.out]; simp [h1], by rw [flagW, HX.out]; exact HE.out.1, HE.out.2⟩

structure Loc (g G : Nat) {σ : Type} (At : World → σ → Prop) (T : TypeId) (w : World) (zs : Array Value) (wk : World) (s : σ) (cs : Array Value) : Prop where
  at_ : At wk s
  kb : KB G w.heap.size w wk
  b0 : BoxAt wk w.heap.size 63 #[.func (.func g) #[.pointer (some ⟨G, 0, none⟩)] #[]]
  b1 : BoxAt wk (w.heap.size + 1) T cs
  b2 : BoxAt wk (w.heap.size + 2) T zs
  o0 : ¬ own G wk w.heap.size
  o1 : ¬ own G wk (w.heap.size + 1)
  o2 : ¬ own G wk (w.heap.size + 2)

section
variable {g G : Nat} {σ : Type} {nx : Int → Int → σ → Int × σ} {At : World → σ → Prop} {room : σ → Nat} {T : TypeId} {w : World} {zs : Array Value} {s : σ} {cs : Array Value}

theorem Loc.start (M : Mach g G σ nx At room) (hA : At w s) (T : TypeId) (cs zs : Array Value) :
    Loc g G At T w zs (((w.alloc (.cells #[.func (.func g) #[.pointer (some ⟨G, 0, none⟩)] #[]] 63)).alloc (.cells cs T)).alloc (.cells zs T)) s cs := by
  have hL := M.live w s hA
  have hL1 := hL.alloc (.cells #[.func (.func g) #[.pointer (some ⟨G, 0, none⟩)] #[]] 63)
  have hL2 := hL1.alloc (.cells cs T)
  have hn : ∀ k, w.heap.size ≤ k → ¬ own G (((w.alloc (.cells #[.func (.func g) #[.pointer (some ⟨G, 0, none⟩)] #[]] 63)).alloc (.cells cs T)).alloc (.cells zs T)) k := by
    intro k hk
    rw [own_alloc hL2, own_alloc hL1, own_alloc hL]
    exact hL.fresh hk
  exact ⟨M.alloc (M.alloc (M.alloc hA _) _) _, (((KB.refl _ _ _).alloc hL (Nat.le_refl _) _).alloc hL1 (by simp) _).alloc hL2 (by simp; omega) _,
    ((BoxAt.new w _ _).alloc _).alloc _, by
      have := (BoxAt.new (w.alloc (.cells #[.func (.func g) #[.pointer (some ⟨G, 0, none⟩)] #[]] 63)) T cs).alloc (.cells zs T)
      simpa using this, by
      have := BoxAt.new ((w.alloc (.cells #[.func (.func g) #[.pointer (some ⟨G, 0, none⟩)] #[]] 63)).alloc (.cells cs T)) T zs
      simpa using this, hn _ (Nat.le_refl _), hn _ (by omega), hn _ (by omega)⟩

theorem Loc.step {wk w' : World} {s' : σ} (h : Loc g G At T w zs wk s cs) (hA : At w' s') (hK : KB G wk.heap.size wk w') : Loc g G At T w zs w' s' cs :=
  ⟨hA, h.kb.trans (hK.mono h.kb.size), h.b0.kept hK h.b0.lt h.o0, h.b1.kept hK h.b1.lt h.o1, h.b2.kept hK h.b2.lt h.o2, hK.own _ h.b0.lt h.o0, hK.own _ h.b1.lt h.o1, hK.own _ h.b2.lt h.o2⟩

theorem Loc.set (M : Mach g G σ nx At room) {wk : World} (h : Loc g G At T w zs wk s cs) (j : Nat) (u : Value) : Loc g G At T w zs (wk.setCell ⟨w.heap.size + 1, j, none⟩ u) s (cs.setIfInBounds j u) :=
  ⟨M.set h.at_ h.o1 u, h.kb.setCell (by simp) h.o1 u, h.b0.other (by omega) u, h.b1.set j u, h.b2.other (by omega) u, fun k => h.o0 ((own_set h.o1 u _).1 k), fun k => h.o1 ((own_set h.o1 u _).1 k), fun k => h.o2 ((own_set h.o1 u _).1 k)⟩

/-- Values stored one behind the other. -/
def sets (w : World) (b : Nat) : Nat → List Value → World
  | _, [] => w
  | o, v :: r => sets (w.setCell ⟨b, o, none⟩ v) b (o + 1) r

theorem Loc.res (M : Mach g G σ nx At room) (vs : List Value) : ∀ (o : Nat) {wk : World} {zs : Array Value}, Loc g G At T w zs wk s cs → At (sets wk (w.heap.size + 2) o vs) s ∧ KB G w.heap.size w (sets wk (w.heap.size + 2) o vs) ∧
    (∀ k, own G (sets wk (w.heap.size + 2) o vs) k ↔ own G wk k) ∧ (∀ k, k ≠ w.heap.size + 2 → (sets wk (w.heap.size + 2) o vs).heap[k]? = wk.heap[k]?) ∧ (sets wk (w.heap.size + 2) o vs).heap.size = wk.heap.size := by
  induction vs with
  | nil => intro o wk zs h; exact ⟨h.at_, h.kb, fun _ => Iff.rfl, fun _ _ => rfl, rfl⟩
  | cons v r ih =>
    intro o wk zs h
    have h' : Loc g G At T w (zs.setIfInBounds o v) (wk.setCell ⟨w.heap.size + 2, o, none⟩ v) s cs :=
      ⟨M.set h.at_ h.o2 v, h.kb.setCell (by simp) h.o2 v, h.b0.other (by omega) v, h.b1.other (by omega) v, h.b2.set o v, fun k => h.o0 ((own_set h.o2 v _).1 k), fun k => h.o1 ((own_set h.o2 v _).1 k), fun k => h.o2 ((own_set h.o2 v _).1 k)⟩
    obtain ⟨i1, i2, i3, i4, i5⟩ := ih (o + 1) h'
    refine ⟨i1, i2, fun k => (i3 k).trans (own_set h.o2 v k), fun k hk => (i4 k hk).trans (Below.heap_setCell _ _ _ _ hk), i5.trans (by simp)⟩
end

theorem BoxAt.sets5 {w : World} {g : Nat} {t : TypeId} {a0 a1 a2 a3 a4 : Value} (h : BoxAt w g t #[a0, a1, a2, a3, a4]) (x0 x1 x2 x3 x4 : Value) :
    BoxAt (sets w g 0 [x0, x1, x2, x3, x4]) g t #[x0, x1, x2, x3, x4] := by
  have := ((((h.set 0 x0).set 1 x1).set 2 x2).set 3 x3).set 4 x4
  simp at this
  exact this
theorem BoxAt.sets2 {w : World} {g : Nat} {t : TypeId} {a0 a1 : Value} (h : BoxAt w g t #[a0, a1]) (x0 x1 : Value) :
    BoxAt (sets w g 0 [x0, x1]) g t #[x0, x1] := by
  have := (h.set 0 x0).set 1 x1
  simp at this
  exact this
theorem BoxAt.sets3 {w : World} {g : Nat} {t : TypeId} {a0 a1 a2 : Value} (h : BoxAt w g t #[a0, a1, a2]) (x0 x1 x2 : Value) :
    BoxAt (sets w g 0 [x0, x1, x2]) g t #[x0, x1, x2] := by
  have := ((h.set 0 x0).set 1 x1).set 2 x2
  simp at this
  exact this
theorem BoxAt.sets6 {w : World} {g : Nat} {t : TypeId} {a0 a1 a2 a3 a4 a5 : Value} (h : BoxAt w g t #[a0, a1, a2, a3, a4, a5]) (x0 x1 x2 x3 x4 x5 : Value) :
    BoxAt (sets w g 0 [x0, x1, x2, x3, x4, x5]) g t #[x0, x1, x2, x3, x4, x5] := by
  have := (((((h.set 0 x0).set 1 x1).set 2 x2).set 3 x3).set 4 x4).set 5 x5
  simp at this
  exact this
theorem BoxAt.sets11 {w : World} {g : Nat} {t : TypeId} {a0 a1 a2 a3 a4 a5 a6 a7 a8 a9 a10 : Value} (h : BoxAt w g t #[a0, a1, a2, a3, a4, a5, a6, a7, a8, a9, a10]) (x0 x1 x2 x3 x4 x5 x6 x7 x8 x9 x10 : Value) :
    BoxAt (sets w g 0 [x0, x1, x2, x3, x4, x5, x6, x7, x8, x9, x10]) g t #[x0, x1, x2, x3, x4, x5, x6, x7, x8, x9, x10] := by
  have := ((((((((((h.set 0 x0).set 1 x1).set 2 x2).set 3 x3).set 4 x4).set 5 x5).set 6 x6).set 7 x7).set 8 x8).set 9 x9).set 10 x10
  simp at this
  exact this
end Go.Proofs.Ytfdoejdnhogepaa
