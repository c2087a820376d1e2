/-
  No cell of these rows narrows 'for every input' (looked for: loops, veiled, ifaces, maps, wideKeys, modest, calm, conditions, laid).
  DERIVED. THE GIVEN ROWS OF THIS SEAT. 6 by the template 'for every input the law returns true; each argument reads behind the call as it read before'; 0 by the template 'total and deterministic' (their statements: YtdhkchbmddacmaaTotals.lean).
  GIVEN WITH THE SEED: the statements are not yours to turn. If you find one false, say at which input.
  Laid BY PROGRAM, IN A SANDBOX (cutbox-rows.mjs): the forced cells as the released guide's own fill.sh prints them over the translation 803b8ff38026adbf… (all of the seat's roots in one cut). By AI agents, Wed Nov 11 2026. No macro, syntax, notation, axiom, sorry.
-/
import Derived.Test.YtdhkchbmddacmaaChecked
import GoSem.Claim
import GoSem.ClaimJoined
import GoSem.ClaimMapViews
import Derived.JoinedTies
import Derived.KernelRfl
namespace Go.Proofs.Ytdhkchbmddacmaa
/- THE CELL 'sum', in the pinned program and in every row, IS THE sha256 OF THE DUMP (.gsa) THAT YtdhkchbmddacmaaProg.lean LOADS. Nothing in Lean hashes anything: it is a label: what it is worth is what the hold of that sum in a sandbox is worth. -/
noncomputable def Try.pinned : Pinned := { name := "ytdhkchbmddacmaa", sum := "803b8ff38026adbf486b7b27dbb3e0886091d203218cb5764fa3fb48c2794486", checked := Try.checked }
namespace Rows
def none {H : Type} : Left H := { results := [], args := [] }

/-- 'quarterdecklaw09.ReadyOrders': WHATEVER THE INPUT: true; the input reads as it did. -/
def readyOrdersSpec : ChangeSpec := { name := "readyOrders", fn := fun _ => fun
  | [d1, d2] => { results := [.lit (.bool true)], args := [d1, d2] }
  | _ => none }
def readyOrdersRow : OpenClaim := { program := "ytdhkchbmddacmaa", sum := "803b8ff38026adbf486b7b27dbb3e0886091d203218cb5764fa3fb48c2794486", func := "quarterdeck/quarterdecklaw09.ReadyOrders", spec := "readyOrders", unfollowed := true, recurses := true, apart := false }
def ReadyOrdersSaid : Prop := readyOrdersRow.holds Try.pinned (OpenSpec.ofChange readyOrdersSpec)

/-- ITS FALSE NEIGHBOUR: 'it returns false'. Refute it at one input. -/
def readyOrdersWrong : ChangeSpec := { name := "readyOrders", fn := fun _ => fun
  | [d1, d2] => { results := [.lit (.bool false)], args := [d1, d2] }
  | _ => none }
def ReadyOrdersWrongFalsely : Prop := readyOrdersRow.holds Try.pinned (OpenSpec.ofChange readyOrdersWrong)

/-- 'quarterdecklaw09.ReadyFirst': WHATEVER THE INPUT: true; the input reads as it did. -/
def readyFirstSpec : ChangeSpec := { name := "readyFirst", fn := fun _ => fun
  | [d] => { results := [.lit (.bool true)], args := [d] }
  | _ => none }
def readyFirstRow : OpenClaim := { program := "ytdhkchbmddacmaa", sum := "803b8ff38026adbf486b7b27dbb3e0886091d203218cb5764fa3fb48c2794486", func := "quarterdeck/quarterdecklaw09.ReadyFirst", spec := "readyFirst", unfollowed := true, recurses := true, apart := false }
def ReadyFirstSaid : Prop := readyFirstRow.holds Try.pinned (OpenSpec.ofChange readyFirstSpec)

/-- ITS FALSE NEIGHBOUR: 'it returns false'. Refute it at one input. -/
def readyFirstWrong : ChangeSpec := { name := "readyFirst", fn := fun _ => fun
  | [d] => { results := [.lit (.bool false)], args := [d] }
  | _ => none }
def ReadyFirstWrongFalsely : Prop := readyFirstRow.holds Try.pinned (OpenSpec.ofChange readyFirstWrong)

/-- 'quarterdecklaw09.ReadyLess': WHATEVER THE INPUT: true; the input reads as it did. -/
def readyLessSpec : ChangeSpec := { name := "readyLess", fn := fun _ => fun
  | [d1, d2] => { results := [.lit (.bool true)], args := [d1, d2] }
  | _ => none }
def readyLessRow : OpenClaim := { program := "ytdhkchbmddacmaa", sum := "803b8ff38026adbf486b7b27dbb3e0886091d203218cb5764fa3fb48c2794486", func := "quarterdeck/quarterdecklaw09.ReadyLess", spec := "readyLess", unfollowed := true, recurses := true, apart := false }
def ReadyLessSaid : Prop := readyLessRow.holds Try.pinned (OpenSpec.ofChange readyLessSpec)

/-- ITS FALSE NEIGHBOUR: 'it returns false'. Refute it at one input. -/
def readyLessWrong : ChangeSpec := { name := "readyLess", fn := fun _ => fun
  | [d1, d2] => { results := [.lit (.bool false)], args := [d1, d2] }
  | _ => none }
def ReadyLessWrongFalsely : Prop := readyLessRow.holds Try.pinned (OpenSpec.ofChange readyLessWrong)

/-- 'quarterdecklaw09.ReadyModes': WHATEVER THE INPUT: true; the input reads as it did. -/
def readyModesSpec : ChangeSpec := { name := "readyModes", fn := fun _ => fun
  | [d1, d2] => { results := [.lit (.bool true)], args := [d1, d2] }
  | _ => none }
def readyModesRow : OpenClaim := { program := "ytdhkchbmddacmaa", sum := "803b8ff38026adbf486b7b27dbb3e0886091d203218cb5764fa3fb48c2794486", func := "quarterdeck/quarterdecklaw09.ReadyModes", spec := "readyModes", unfollowed := true, recurses := true, apart := false }
def ReadyModesSaid : Prop := readyModesRow.holds Try.pinned (OpenSpec.ofChange readyModesSpec)

/-- ITS FALSE NEIGHBOUR: 'it returns false'. Refute it at one input. -/
def readyModesWrong : ChangeSpec := { name := "readyModes", fn := fun _ => fun
  | [d1, d2] => { results := [.lit (.bool false)], args := [d1, d2] }
  | _ => none }
def ReadyModesWrongFalsely : Prop := readyModesRow.holds Try.pinned (OpenSpec.ofChange readyModesWrong)

/-- 'quarterdecklaw09.ReadyAll': WHATEVER THE INPUT: true; the input reads as it did. -/
def readyAllSpec : ChangeSpec := { name := "readyAll", fn := fun _ => fun
  | [d] => { results := [.lit (.bool true)], args := [d] }
  | _ => none }
def readyAllRow : OpenClaim := { program := "ytdhkchbmddacmaa", sum := "803b8ff38026adbf486b7b27dbb3e0886091d203218cb5764fa3fb48c2794486", func := "quarterdeck/quarterdecklaw09.ReadyAll", spec := "readyAll", unfollowed := true, recurses := true, apart := false }
def ReadyAllSaid : Prop := readyAllRow.holds Try.pinned (OpenSpec.ofChange readyAllSpec)

/-- ITS FALSE NEIGHBOUR: 'it returns false'. Refute it at one input. -/
def readyAllWrong : ChangeSpec := { name := "readyAll", fn := fun _ => fun
  | [d] => { results := [.lit (.bool false)], args := [d] }
  | _ => none }
def ReadyAllWrongFalsely : Prop := readyAllRow.holds Try.pinned (OpenSpec.ofChange readyAllWrong)

/-- 'quarterdecklaw09.ReadyRaise': WHATEVER THE INPUT: true; the input reads as it did. -/
def readyRaiseSpec : ChangeSpec := { name := "readyRaise", fn := fun _ => fun
  | [d1, d2] => { results := [.lit (.bool true)], args := [d1, d2] }
  | _ => none }
def readyRaiseRow : OpenClaim := { program := "ytdhkchbmddacmaa", sum := "803b8ff38026adbf486b7b27dbb3e0886091d203218cb5764fa3fb48c2794486", func := "quarterdeck/quarterdecklaw09.ReadyRaise", spec := "readyRaise", unfollowed := true, recurses := true, apart := false }
def ReadyRaiseSaid : Prop := readyRaiseRow.holds Try.pinned (OpenSpec.ofChange readyRaiseSpec)

/-- ITS FALSE NEIGHBOUR: 'it returns false'. Refute it at one input. -/
def readyRaiseWrong : ChangeSpec := { name := "readyRaise", fn := fun _ => fun
  | [d1, d2] => { results := [.lit (.bool false)], args := [d1, d2] }
  | _ => none }
def ReadyRaiseWrongFalsely : Prop := readyRaiseRow.holds Try.pinned (OpenSpec.ofChange readyRaiseWrong)

/- THE SECOND FORM. 'bulk': how many values and letters a reading holds, each counted each time it is reached (what is shared counts as often as it is met; a slice's spare places count too). A statement '..UptoSaid' is the law's where the arguments, and the package variables that the reading takes, are together of bulk at most 1048576: NARROWER than '..Said'. Prove '..Said' where nothing that the law and all that it calls make is longer than what came in: it says more and counts as full. Else prove '..UptoSaid'. A law counts once. -/
mutual
def uptoBulk {H : Type} : DataW H → Nat
  | .lit (.string bytes) => bytes.length + 1
  | .lit _ => 1
  | .nil => 1
  | .ptr d => uptoBulk d + 1
  | .slice elems spare => uptoBulkAll elems + uptoBulkAll spare + 1
  | .agg parts => uptoBulkAll parts + 1
  | .iface _ d => uptoBulk d + 1
  | .map entries => uptoBulkEntries entries + 1
  | .held _ => 1
def uptoBulkAll {H : Type} : List (DataW H) → Nat
  | [] => 0
  | d :: r => uptoBulk d + uptoBulkAll r
def uptoBulkEntries {H : Type} : List (Lit × DataW H) → Nat
  | [] => 0
  | x :: r => uptoBulkEntry x + uptoBulkEntries r
def uptoBulkEntry {H : Type} : Lit × DataW H → Nat
  | (.string bytes, d) => bytes.length + uptoBulk d + 1
  | (_, d) => uptoBulk d + 1
 end
def uptoSmall : (H : Type) → List (DataW H) → Bool := fun _ ds => decide (uptoBulkAll ds ≤ 1048576)
def OpenSpec.upto (s : _root_.Go.ChangeSpec) : _root_.Go.OpenSpec := { _root_.Go.OpenSpec.ofChange s with cond := some uptoSmall }

/-- 'quarterdecklaw09.ReadyOrders', WHERE WHAT IT READS IS OF BULK AT MOST 1048576: true; the input reads as it did. -/
def readyOrdersUptoRow : OpenClaim := { program := "ytdhkchbmddacmaa", sum := "803b8ff38026adbf486b7b27dbb3e0886091d203218cb5764fa3fb48c2794486", func := "quarterdeck/quarterdecklaw09.ReadyOrders", spec := "readyOrders", unfollowed := true, recurses := true, apart := false, narrowed := true }
def ReadyOrdersUptoSaid : Prop := readyOrdersUptoRow.holds Try.pinned (OpenSpec.upto readyOrdersSpec)

/-- 'quarterdecklaw09.ReadyFirst', WHERE WHAT IT READS IS OF BULK AT MOST 1048576: true; the input reads as it did. -/
def readyFirstUptoRow : OpenClaim := { program := "ytdhkchbmddacmaa", sum := "803b8ff38026adbf486b7b27dbb3e0886091d203218cb5764fa3fb48c2794486", func := "quarterdeck/quarterdecklaw09.ReadyFirst", spec := "readyFirst", unfollowed := true, recurses := true, apart := false, narrowed := true }
def ReadyFirstUptoSaid : Prop := readyFirstUptoRow.holds Try.pinned (OpenSpec.upto readyFirstSpec)

/-- 'quarterdecklaw09.ReadyLess', WHERE WHAT IT READS IS OF BULK AT MOST 1048576: true; the input reads as it did. -/
def readyLessUptoRow : OpenClaim := { program := "ytdhkchbmddacmaa", sum := "803b8ff38026adbf486b7b27dbb3e0886091d203218cb5764fa3fb48c2794486", func := "quarterdeck/quarterdecklaw09.ReadyLess", spec := "readyLess", unfollowed := true, recurses := true, apart := false, narrowed := true }
def ReadyLessUptoSaid : Prop := readyLessUptoRow.holds Try.pinned (OpenSpec.upto readyLessSpec)

/-- 'quarterdecklaw09.ReadyModes', WHERE WHAT IT READS IS OF BULK AT MOST 1048576: true; the input reads as it did. -/
def readyModesUptoRow : OpenClaim := { program := "ytdhkchbmddacmaa", sum := "803b8ff38026adbf486b7b27dbb3e0886091d203218cb5764fa3fb48c2794486", func := "quarterdeck/quarterdecklaw09.ReadyModes", spec := "readyModes", unfollowed := true, recurses := true, apart := false, narrowed := true }
def ReadyModesUptoSaid : Prop := readyModesUptoRow.holds Try.pinned (OpenSpec.upto readyModesSpec)

/-- 'quarterdecklaw09.ReadyAll', WHERE WHAT IT READS IS OF BULK AT MOST 1048576: true; the input reads as it did. -/
def readyAllUptoRow : OpenClaim := { program := "ytdhkchbmddacmaa", sum := "803b8ff38026adbf486b7b27dbb3e0886091d203218cb5764fa3fb48c2794486", func := "quarterdeck/quarterdecklaw09.ReadyAll", spec := "readyAll", unfollowed := true, recurses := true, apart := false, narrowed := true }
def ReadyAllUptoSaid : Prop := readyAllUptoRow.holds Try.pinned (OpenSpec.upto readyAllSpec)

/-- 'quarterdecklaw09.ReadyRaise', WHERE WHAT IT READS IS OF BULK AT MOST 1048576: true; the input reads as it did. -/
def readyRaiseUptoRow : OpenClaim := { program := "ytdhkchbmddacmaa", sum := "803b8ff38026adbf486b7b27dbb3e0886091d203218cb5764fa3fb48c2794486", func := "quarterdeck/quarterdecklaw09.ReadyRaise", spec := "readyRaise", unfollowed := true, recurses := true, apart := false, narrowed := true }
def ReadyRaiseUptoSaid : Prop := readyRaiseUptoRow.holds Try.pinned (OpenSpec.upto readyRaiseSpec)

end Rows
end Go.Proofs.Ytdhkchbmddacmaa
