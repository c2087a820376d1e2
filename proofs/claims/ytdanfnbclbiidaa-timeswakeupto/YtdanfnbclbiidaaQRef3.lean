/-
  What the document's Resume and Prio return.
-/
import Derived.Test.YtdanfnbclbiidaaQRef2
import Derived.Test.YtdanfnbclbiidaaQFacts2
namespace Go.Proofs.Ytdanfnbclbiidaa
open Go.RowKit
set_option linter.unusedVariables false

/-- What reads as a partition, whatever turns from n on in blocks of partitions alone. -/
def PaS (n : Nat) (w : World) (q : PaV) (c : Pa) : Prop := ∀ W, Below n w W → Turns (fun t => t = 39) w W → PaAt W q c
theorem PaS.from {w0 w : World} {q : PaV} {c : Pa} (h : PaAt w0 q c) (hb : Below w0.heap.size w0 w) : PaS w0.heap.size w q c := fun W hW _ => h.below (hb.trans hW)
theorem PaS.at {n : Nat} {w : World} {q : PaV} {c : Pa} (h : PaS n w q c) : PaAt w q c := h w (Below.refl n w) (Turns.refl _ w)
theorem PaS.go {n : Nat} {w w' : World} {q : PaV} {c : Pa} (h : PaS n w q c) (hb : Below n w w') (ht : Turns (fun t => t = 39) w w') : PaS n w' q c := fun W hW hT => h W (hb.trans hW) (ht.trans hT)
theorem PaS.below {n : Nat} {w w' : World} {q : PaV} {c : Pa} (h : PaS n w q c) (hn : n ≤ w.heap.size) (hb : Below w.heap.size w w') : PaS n w' q c := h.go (hb.mono hn) (Turns.below hb)
theorem PaS.put {n g : Nat} {w w' : World} {q : PaV} {c : Pa} {cs cs' : Array Value} (h : PaS n w q c) (hn : n ≤ g) (hs : n ≤ w.heap.size) (hg : w.grownBy w' (some g)) (h1 : BoxAt w g 39 cs) (h2 : BoxAt w' g 39 cs') : PaS n w' q c :=
  h.go (grown_below hg hn hs) (Turns.grown (S := fun t => t = 39) h1 h2 rfl hg)
theorem PaS.pr {n base : Nat} {w w' : World} {q : PaV} {c : Pa} {s : Sl} {l : List Px} (h : PaS n w q c) (hn : n ≤ w.heap.size) (hb : Below w.heap.size w w') (ho : OP w' base s.val l) : PaS n w' { q with pr := s } { c with pr := l } := fun W hW hT => by
  have h1 := (h.below hn hb) W hW hT
  exact ⟨h1.md, h1.bg, h1.nx, h1.me, (ho.turn (by decide) hT).sees, h1.bo, h1.bu, h1.se, h1.ev, h1.sa, h1.qu, h1.ld, h1.ll, h1.lx, h1.gi⟩
theorem PaS.nx {n : Nat} {w : World} {q : PaV} {c : Pa} (x : Int) (h : PaS n w q c) : PaS n w { q with nx := x } { c with nx := x } := fun W hW hT => by
  have h1 := h W hW hT
  exact ⟨h1.md, h1.bg, rfl, h1.me, h1.pr, h1.bo, h1.bu, h1.se, h1.ev, h1.sa, h1.qu, h1.ld, h1.ll, h1.lx, h1.gi⟩

/-- with. -/
theorem rwith_s {n : Nat} {q : PaV} {c : Pa} {w : World} (k : Nat) (r : Px) (hs : PaS n w q c) (hn : n ≤ w.heap.size) (hlen : c.pr.length ≤ 900000) (hk : k < c.pr.length) :
    Calls Try.prog 57 #[q.val, .int .i64 k, r.val] w fun e w' => ∃ q', e = .returned (PaV.val q') ∧ PaS n w' q' { c with pr := c.pr.set k r } ∧ Below w.heap.size w w' := by
  refine (rwith_own k r hs.at hlen hk).mono ?_
  rintro e w' ⟨s, rfl, ho, hb⟩
  exact ⟨_, rfl, hs.pr hn hb ho, hb⟩
/-- queued. -/
theorem rqueued_s {q : PaV} {nx : Int} {w : World} (x : Px) (hq : q.nx = nx) :
    Calls Try.prog 56 #[q.val, x.val] w fun e w' => ∃ q' y, e = .returned (.tuple #[PaV.val q', Px.val y]) ∧ y = { x with si := nx } ∧ q' = { q with nx := wrap64 (nx + 1) } ∧ Below w.heap.size w w' := by
  refine (rqueued_any q x w).mono ?_
  rintro e w' ⟨rfl, hb⟩
  subst hq
  exact ⟨_, _, rfl, rfl, rfl, hb⟩

theorem deed_in {c : Pa} {k : Nat} (hk : k < c.pr.length) (f : Px → Dd) : deedP c (k : Int) f = ({ c with pr := c.pr.set k ((f (c.pr.getD k Px.zero)).out c.nx), nx := (f (c.pr.getD k Px.zero)).nxt c.nx }, (f (c.pr.getD k Px.zero)).k) := by
  unfold deedP
  rw [if_pos ⟨by omega, by omega⟩]
  rfl
theorem deed_idle {c : Pa} {k : Nat} (hk : k < c.pr.length) (f : Px → Dd) {t : Int} (h : f (c.pr.getD k Px.zero) = ⟨c.pr.getD k Px.zero, false, t⟩) : deedP c (k : Int) f = (c, t) := by
  rw [deed_in hk, h]
  unfold Dd.out Dd.nxt
  simp only [if_neg Bool.false_ne_true, set_getD_self]
theorem deed_does {c : Pa} {k : Nat} (hk : k < c.pr.length) (f : Px → Dd) {y : Px} (h : f (c.pr.getD k Px.zero) = ⟨y, false, 0⟩) : deedP c (k : Int) f = ({ c with pr := c.pr.set k y }, 0) := by
  rw [deed_in hk, h]
  rfl
theorem deed_does_q {c : Pa} {k : Nat} (hk : k < c.pr.length) (f : Px → Dd) {y : Px} (h : f (c.pr.getD k Px.zero) = ⟨y, true, 0⟩) : deedP c (k : Int) f = ({ c with pr := c.pr.set k { y with si := c.nx }, nx := wrap64 (c.nx + 1) }, 0) := by
  rw [deed_in hk, h]
  rfl
theorem deed_out {c : Pa} {i : Int} (h : ¬ (0 ≤ i ∧ i < c.pr.length)) (f : Px → Dd) : deedP c i f = (c, 3) := by
  unfold deedP
  rw [if_neg h]

end Go.Proofs.Ytdanfnbclbiidaa
