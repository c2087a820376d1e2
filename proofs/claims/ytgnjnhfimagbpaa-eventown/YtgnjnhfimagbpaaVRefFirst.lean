/-
  What the document's First returns, whatever list it is given: the others are a list of the call's own.
-/
import Derived.Test.YtgnjnhfimagbpaaVFirst
namespace Go.Proofs.Ytgnjnhfimagbpaa
open Go.RowKit
set_option linter.unusedVariables false

end Go.Proofs.Ytgnjnhfimagbpaa
