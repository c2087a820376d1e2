/-
  What is done to a process, and to a partition, as functions.
-/
import Derived.Test.YtdanfnbclbiidaaQReg
import Derived.Test.YtdanfnbclbiidaaTPtR
namespace Go.Proofs.Ytdanfnbclbiidaa
open Go.RowKit
set_option linter.unusedVariables false

/-- A dormant process, as it is configured. -/
def Px.dorm (p : Int) : Px := ⟨0, p, false, 0, 0, 0, 0, 0, 0, -1, 0, 0, -1, -1, false, 0, 0, 0⟩

/-- What is done to a process: what it is then, is it queued, what is told. -/
structure Dd where
  r : Px
  q : Bool
  k : Int
def Dd.out (d : Dd) (nx : Int) : Px := if d.q then { d.r with si := nx } else d.r
def Dd.nxt (d : Dd) (nx : Int) : Int := if d.q then wrap64 (nx + 1) else nx

def startD (f : Pc) (now : Int) (r : Px) : Dd :=
  if r.st = 0 then ⟨{ Px.dorm f.pr with st := 1, pc := f.en, du := if 0 < f.li then wrap64 (now + f.li) else -1, ne := if 0 < f.pe then wrap64 (now + f.pe) else -1 }, true, 0⟩ else ⟨r, false, 1⟩
def stopD (r : Px) : Dd := if r.st = 0 then ⟨r, false, 1⟩ else ⟨Px.dorm r.pr, false, 0⟩
def suspD (f : Pc) (r : Px) : Dd := if r.st = 0 ∨ 0 < f.pe then ⟨r, false, 4⟩ else if r.su then ⟨r, false, 1⟩ else ⟨{ r with su := true }, false, 0⟩
def resD (r : Px) : Dd := if r.st = 0 then ⟨r, false, 4⟩ else if r.su then ⟨{ r with su := false }, decide (r.st = 1), 0⟩ else ⟨r, false, 1⟩
def prioD (n : Int) (r : Px) : Dd := if n < 0 ∨ 15 < n then ⟨r, false, 3⟩ else if r.st = 0 then ⟨r, false, 4⟩ else ⟨{ r with pr := n }, decide (r.st = 1), 0⟩
def blockD (ki ob un ca : Int) (r : Px) : Dd := if r.st = 1 then ⟨{ r with st := 2, ki := ki, ob := ob, un := un, ca := ca }, false, 0⟩ else ⟨r, false, 1⟩
def goD (c v : Int) (r : Px) : Dd := if r.st = 2 then ⟨{ r with st := 1, un := -1, ki := 0, ob := 0, pe := true, co := c, va := v, r0 := c, r1 := v }, true, 0⟩ else ⟨r, false, 1⟩

/-- What is done to a partition, to one of its processes. -/
def deedP (c : Pa) (i : Int) (f : Px → Dd) : Pa × Int :=
  if 0 ≤ i ∧ i < c.pr.length then ({ c with pr := c.pr.set i.toNat ((f (c.pr.getD i.toNat Px.zero)).out c.nx), nx := (f (c.pr.getD i.toNat Px.zero)).nxt c.nx }, (f (c.pr.getD i.toNat Px.zero)).k) else (c, 3)

/-- A partition in which who is told leaves all objects. -/
def leaveP (c : Pa) (f : Wt → Bool) : Pa :=
  { c with bo := c.bo.map (fun b => { b with l := b.l.filter fun x => !f x }), bu := c.bu.map (fun b => { b with l := b.l.filter fun x => !f x }), se := c.se.map (fun b => { b with l := b.l.filter fun x => !f x }), ev := c.ev.map (fun b => { b with l := b.l.filter fun x => !f x }) }
def isW (i : Int) (x : Wt) : Bool := decide (x.p = i)
theorem leaveP_none (c : Pa) : leaveP c (fun _ => false) = c := by
  have h : ∀ l : List Wt, l.filter (fun _ => !false) = l := fun l => by rw [List.filter_eq_self]; intro a _; rfl
  unfold leaveP
  simp only [h]
  simp

def startP (f : Pt) (c : Pa) (i now : Int) : Pa × Int := if 0 ≤ i ∧ i < f.pc.length then deedP c i (startD (f.pc.getD i.toNat Pc.zero) now) else (c, 3)
def stopP (c : Pa) (i : Int) : Pa × Int := if (deedP c i stopD).2 = 0 then (leaveP (deedP c i stopD).1 (isW i), 0) else deedP c i stopD
def suspP (f : Pt) (c : Pa) (i : Int) : Pa × Int := if 0 ≤ i ∧ i < f.pc.length then deedP c i (suspD (f.pc.getD i.toNat Pc.zero)) else (c, 3)
def resP (c : Pa) (i : Int) : Pa × Int := deedP c i resD
def prioP (c : Pa) (i n : Int) : Pa × Int := deedP c i (prioD n)
def blockP (c : Pa) (i ki ob un ca : Int) : Pa := (deedP c i (blockD ki ob un ca)).1
def goP (c : Pa) (i k v : Int) : Pa := (deedP c i (goD k v)).1
def newP (f : Pt) : List Px := f.pc.map (fun x => Px.dorm x.pr)
end Go.Proofs.Ytdanfnbclbiidaa
