/-
  No cell of these rows narrows 'for every input' (looked for: loops, veiled, ifaces, maps, wideKeys, modest, calm, conditions, laid).
  DERIVED. THE GIVEN ROWS OF THIS SEAT. 5 by the template 'for every input the law returns true; each argument reads behind the call as it read before'; 0 by the template 'total and deterministic' (their statements: YtpojoflhmbnfmaaTotals.lean).
  GIVEN WITH THE SEED: the statements are not yours to turn. If you find one false, say at which input.
  Laid BY PROGRAM, IN A SANDBOX (cutbox-rows.mjs): the forced cells as the released guide's own fill.sh prints them over the translation 5107656e36a060b5… (all of the seat's roots in one cut). By AI agents, Wed Nov 11 2026. No macro, syntax, notation, axiom, sorry.
-/
import Derived.Test.YtpojoflhmbnfmaaChecked
import GoSem.Claim
import GoSem.ClaimJoined
import GoSem.ClaimMapViews
import Derived.JoinedTies
import Derived.KernelRfl
namespace Go.Proofs.Ytpojoflhmbnfmaa
/- THE CELL 'sum', in the pinned program and in every row, IS THE sha256 OF THE DUMP (.gsa) THAT YtpojoflhmbnfmaaProg.lean LOADS. Nothing in Lean hashes anything: it is a label: what it is worth is what the hold of that sum in a sandbox is worth. -/
noncomputable def Try.pinned : Pinned := { name := "ytpojoflhmbnfmaa", sum := "5107656e36a060b572f37e8529f5d6a5c32979633b0164bb032c974a6e29a854", checked := Try.checked }
namespace Rows
def none {H : Type} : Left H := { results := [], args := [] }

/-- 'quarterdecklaw13.BoardDoes': WHATEVER THE INPUT: true; the input reads as it did. -/
def boardDoesSpec : ChangeSpec := { name := "boardDoes", fn := fun _ => fun
  | [d1, d2, d3, d4] => { results := [.lit (.bool true)], args := [d1, d2, d3, d4] }
  | _ => none }
def boardDoesRow : OpenClaim := { program := "ytpojoflhmbnfmaa", sum := "5107656e36a060b572f37e8529f5d6a5c32979633b0164bb032c974a6e29a854", func := "quarterdeck/quarterdecklaw13.BoardDoes", spec := "boardDoes", unfollowed := true, recurses := true, apart := false }
def BoardDoesSaid : Prop := boardDoesRow.holds Try.pinned (OpenSpec.ofChange boardDoesSpec)

/-- ITS FALSE NEIGHBOUR: 'it returns false'. Refute it at one input. -/
def boardDoesWrong : ChangeSpec := { name := "boardDoes", fn := fun _ => fun
  | [d1, d2, d3, d4] => { results := [.lit (.bool false)], args := [d1, d2, d3, d4] }
  | _ => none }
def BoardDoesWrongFalsely : Prop := boardDoesRow.holds Try.pinned (OpenSpec.ofChange boardDoesWrong)

/-- 'quarterdecklaw13.BoardTells': WHATEVER THE INPUT: true; the input reads as it did. -/
def boardTellsSpec : ChangeSpec := { name := "boardTells", fn := fun _ => fun
  | [d1, d2] => { results := [.lit (.bool true)], args := [d1, d2] }
  | _ => none }
def boardTellsRow : OpenClaim := { program := "ytpojoflhmbnfmaa", sum := "5107656e36a060b572f37e8529f5d6a5c32979633b0164bb032c974a6e29a854", func := "quarterdeck/quarterdecklaw13.BoardTells", spec := "boardTells", unfollowed := true, recurses := true, apart := false }
def BoardTellsSaid : Prop := boardTellsRow.holds Try.pinned (OpenSpec.ofChange boardTellsSpec)

/-- ITS FALSE NEIGHBOUR: 'it returns false'. Refute it at one input. -/
def boardTellsWrong : ChangeSpec := { name := "boardTells", fn := fun _ => fun
  | [d1, d2] => { results := [.lit (.bool false)], args := [d1, d2] }
  | _ => none }
def BoardTellsWrongFalsely : Prop := boardTellsRow.holds Try.pinned (OpenSpec.ofChange boardTellsWrong)

/-- 'quarterdecklaw13.BoardLast': WHATEVER THE INPUT: true; the input reads as it did. -/
def boardLastSpec : ChangeSpec := { name := "boardLast", fn := fun _ => fun
  | [d1, d2, d3] => { results := [.lit (.bool true)], args := [d1, d2, d3] }
  | _ => none }
def boardLastRow : OpenClaim := { program := "ytpojoflhmbnfmaa", sum := "5107656e36a060b572f37e8529f5d6a5c32979633b0164bb032c974a6e29a854", func := "quarterdeck/quarterdecklaw13.BoardLast", spec := "boardLast", unfollowed := true, recurses := true, apart := false }
def BoardLastSaid : Prop := boardLastRow.holds Try.pinned (OpenSpec.ofChange boardLastSpec)

/-- ITS FALSE NEIGHBOUR: 'it returns false'. Refute it at one input. -/
def boardLastWrong : ChangeSpec := { name := "boardLast", fn := fun _ => fun
  | [d1, d2, d3] => { results := [.lit (.bool false)], args := [d1, d2, d3] }
  | _ => none }
def BoardLastWrongFalsely : Prop := boardLastRow.holds Try.pinned (OpenSpec.ofChange boardLastWrong)

/-- 'quarterdecklaw13.BoardOwn': WHATEVER THE INPUT: true; the input reads as it did. -/
def boardOwnSpec : ChangeSpec := { name := "boardOwn", fn := fun _ => fun
  | [d1, d2, d3] => { results := [.lit (.bool true)], args := [d1, d2, d3] }
  | _ => none }
def boardOwnRow : OpenClaim := { program := "ytpojoflhmbnfmaa", sum := "5107656e36a060b572f37e8529f5d6a5c32979633b0164bb032c974a6e29a854", func := "quarterdeck/quarterdecklaw13.BoardOwn", spec := "boardOwn", unfollowed := true, recurses := true, apart := false }
def BoardOwnSaid : Prop := boardOwnRow.holds Try.pinned (OpenSpec.ofChange boardOwnSpec)

/-- ITS FALSE NEIGHBOUR: 'it returns false'. Refute it at one input. -/
def boardOwnWrong : ChangeSpec := { name := "boardOwn", fn := fun _ => fun
  | [d1, d2, d3] => { results := [.lit (.bool false)], args := [d1, d2, d3] }
  | _ => none }
def BoardOwnWrongFalsely : Prop := boardOwnRow.holds Try.pinned (OpenSpec.ofChange boardOwnWrong)

/-- 'quarterdecklaw13.BoardWaits': WHATEVER THE INPUT: true; the input reads as it did. -/
def boardWaitsSpec : ChangeSpec := { name := "boardWaits", fn := fun _ => fun
  | [d1, d2] => { results := [.lit (.bool true)], args := [d1, d2] }
  | _ => none }
def boardWaitsRow : OpenClaim := { program := "ytpojoflhmbnfmaa", sum := "5107656e36a060b572f37e8529f5d6a5c32979633b0164bb032c974a6e29a854", func := "quarterdeck/quarterdecklaw13.BoardWaits", spec := "boardWaits", unfollowed := true, recurses := true, apart := false }
def BoardWaitsSaid : Prop := boardWaitsRow.holds Try.pinned (OpenSpec.ofChange boardWaitsSpec)

/-- ITS FALSE NEIGHBOUR: 'it returns false'. Refute it at one input. -/
def boardWaitsWrong : ChangeSpec := { name := "boardWaits", fn := fun _ => fun
  | [d1, d2] => { results := [.lit (.bool false)], args := [d1, d2] }
  | _ => none }
def BoardWaitsWrongFalsely : Prop := boardWaitsRow.holds Try.pinned (OpenSpec.ofChange boardWaitsWrong)

/- THE SECOND FORM. 'bulk': how many values and letters a reading holds, each counted each time it is reached (what is shared counts as often as it is met; a slice's spare places count too). A statement '..UptoSaid' is the law's where the arguments, and the package variables that the reading takes, are together of bulk at most 1048576: NARROWER than '..Said'. Prove '..Said' where nothing that the law and all that it calls make is longer than what came in: it says more and counts as full. Else prove '..UptoSaid'. A law counts once. -/
mutual
def uptoBulk {H : Type} : DataW H → Nat
  | .lit (.string bytes) => bytes.length + 1
  | .lit _ => 1
  | .nil => 1
  | .ptr d => uptoBulk d + 1
  | .slice elems spare => uptoBulkAll elems + uptoBulkAll spare + 1
  | .agg parts => uptoBulkAll parts + 1
  | .iface _ d => uptoBulk d + 1
  | .map entries => uptoBulkEntries entries + 1
  | .held _ => 1
def uptoBulkAll {H : Type} : List (DataW H) → Nat
  | [] => 0
  | d :: r => uptoBulk d + uptoBulkAll r
def uptoBulkEntries {H : Type} : List (Lit × DataW H) → Nat
  | [] => 0
  | x :: r => uptoBulkEntry x + uptoBulkEntries r
def uptoBulkEntry {H : Type} : Lit × DataW H → Nat
  | (.string bytes, d) => bytes.length + uptoBulk d + 1
  | (_, d) => uptoBulk d + 1
 end
def uptoSmall : (H : Type) → List (DataW H) → Bool := fun _ ds => decide (uptoBulkAll ds ≤ 1048576)
def OpenSpec.upto (s : _root_.Go.ChangeSpec) : _root_.Go.OpenSpec := { _root_.Go.OpenSpec.ofChange s with cond := some uptoSmall }

/-- 'quarterdecklaw13.BoardDoes', WHERE WHAT IT READS IS OF BULK AT MOST 1048576: true; the input reads as it did. -/
def boardDoesUptoRow : OpenClaim := { program := "ytpojoflhmbnfmaa", sum := "5107656e36a060b572f37e8529f5d6a5c32979633b0164bb032c974a6e29a854", func := "quarterdeck/quarterdecklaw13.BoardDoes", spec := "boardDoes", unfollowed := true, recurses := true, apart := false, narrowed := true }
def BoardDoesUptoSaid : Prop := boardDoesUptoRow.holds Try.pinned (OpenSpec.upto boardDoesSpec)

/-- 'quarterdecklaw13.BoardTells', WHERE WHAT IT READS IS OF BULK AT MOST 1048576: true; the input reads as it did. -/
def boardTellsUptoRow : OpenClaim := { program := "ytpojoflhmbnfmaa", sum := "5107656e36a060b572f37e8529f5d6a5c32979633b0164bb032c974a6e29a854", func := "quarterdeck/quarterdecklaw13.BoardTells", spec := "boardTells", unfollowed := true, recurses := true, apart := false, narrowed := true }
def BoardTellsUptoSaid : Prop := boardTellsUptoRow.holds Try.pinned (OpenSpec.upto boardTellsSpec)

/-- 'quarterdecklaw13.BoardLast', WHERE WHAT IT READS IS OF BULK AT MOST 1048576: true; the input reads as it did. -/
def boardLastUptoRow : OpenClaim := { program := "ytpojoflhmbnfmaa", sum := "5107656e36a060b572f37e8529f5d6a5c32979633b0164bb032c974a6e29a854", func := "quarterdeck/quarterdecklaw13.BoardLast", spec := "boardLast", unfollowed := true, recurses := true, apart := false, narrowed := true }
def BoardLastUptoSaid : Prop := boardLastUptoRow.holds Try.pinned (OpenSpec.upto boardLastSpec)

/-- 'quarterdecklaw13.BoardOwn', WHERE WHAT IT READS IS OF BULK AT MOST 1048576: true; the input reads as it did. -/
def boardOwnUptoRow : OpenClaim := { program := "ytpojoflhmbnfmaa", sum := "5107656e36a060b572f37e8529f5d6a5c32979633b0164bb032c974a6e29a854", func := "quarterdeck/quarterdecklaw13.BoardOwn", spec := "boardOwn", unfollowed := true, recurses := true, apart := false, narrowed := true }
def BoardOwnUptoSaid : Prop := boardOwnUptoRow.holds Try.pinned (OpenSpec.upto boardOwnSpec)

/-- 'quarterdecklaw13.BoardWaits', WHERE WHAT IT READS IS OF BULK AT MOST 1048576: true; the input reads as it did. -/
def boardWaitsUptoRow : OpenClaim := { program := "ytpojoflhmbnfmaa", sum := "5107656e36a060b572f37e8529f5d6a5c32979633b0164bb032c974a6e29a854", func := "quarterdeck/quarterdecklaw13.BoardWaits", spec := "boardWaits", unfollowed := true, recurses := true, apart := false, narrowed := true }
def BoardWaitsUptoSaid : Prop := boardWaitsUptoRow.holds Try.pinned (OpenSpec.upto boardWaitsSpec)

end Rows
end Go.Proofs.Ytpojoflhmbnfmaa
