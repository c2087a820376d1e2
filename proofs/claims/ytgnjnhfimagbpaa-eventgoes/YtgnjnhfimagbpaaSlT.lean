/-
  A slice's value.
-/
import Derived.Test.YtgnjnhfimagbpaaLib
namespace Go.Proofs.Ytgnjnhfimagbpaa
open Go.RowKit
set_option linter.unusedVariables false

/-- A slice's value: where it begins, how long it is, how long it may become. -/
structure Sl where
  a : Option Addr
  n : Nat
  c : Nat
def Sl.val (s : Sl) : Value := .slice s.a s.n s.c
end Go.Proofs.Ytgnjnhfimagbpaa
