/-
  What word.GetAll and the document's own GetAll return, whatever bytes they are given (at most 1000000), and that nothing that was there is written.
-/
import Derived.Test.YtfhjlpkejmjigaaDoorWGet
namespace Go.Proofs.YtfhjlpkejmjigaaDoor
open Go.RowKit
set_option linter.unusedVariables false

/-- How long a slice is. -/
def lenOf : Value → Nat | .slice _ n _ => n | _ => 0

end Go.Proofs.YtfhjlpkejmjigaaDoor
