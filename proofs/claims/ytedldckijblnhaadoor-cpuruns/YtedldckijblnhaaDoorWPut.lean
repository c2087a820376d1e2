/-
  What word.isTables, word.appendDigits, word.Put and the document's own May and Put return, whatever they are given, and that nothing that was there is written.
-/
import Derived.Test.YtedldckijblnhaaDoorRows
import Derived.Test.YtedldckijblnhaaDoorWMath
import Derived.Test.YtedldckijblnhaaDoorLib
import Derived.WalkKit
import Derived.WalkSpells
import Derived.WalkLawsBesides
namespace Go.Proofs.YtedldckijblnhaaDoor
open Go.RowKit
set_option linter.unusedVariables false

theorem Tryd.infoU8 : (Tryd.prog.info? 5).map (fun i => (i.zero, i.size, i.bytes)) = some (some (.int .u8 0), 1, 1) := by kernel_rfl
theorem Tryd.infoInt : (Tryd.prog.info? 3).map (fun i => (i.zero, i.size, i.bytes)) = some (some (.int .i64 0), 1, 8) := by kernel_rfl

theorem Tryd.hnot : ∀ (x : Bool) (w : World), (Op.unary .not (.bool x)).run Tryd.prog w = .ok (.bool (!x)) w := fun _ _ => rfl

end Go.Proofs.YtedldckijblnhaaDoor
