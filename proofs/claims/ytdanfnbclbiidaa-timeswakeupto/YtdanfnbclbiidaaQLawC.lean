/-
  What the law's own change returns: one of five, by the program.
-/
import Derived.Test.YtdanfnbclbiidaaQApi2
namespace Go.Proofs.Ytdanfnbclbiidaa
open Go.RowKit
set_option linter.unusedVariables false

/-- One of five that are done to a process. -/
def changeP (f : Pt) (c : Pa) (k i n : Int) : Pa × Int := if k = 0 then startP f c i n else if k = 1 then stopP c i else if k = 2 then suspP f c i else if k = 3 then resP c i else prioP c i n

end Go.Proofs.Ytdanfnbclbiidaa
