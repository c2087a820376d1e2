/-
  No cell of these rows narrows 'for every input' (looked for: loops, veiled, ifaces, maps, wideKeys, modest, calm, conditions, laid).
  DERIVED. THE GIVEN ROWS OF THIS SEAT. 5 by the template 'for every input the law returns true; each argument reads behind the call as it read before'; 0 by the template 'total and deterministic' (their statements: YtdmdpfjnbifegaaTotals.lean).
  GIVEN WITH THE SEED: the statements are not yours to turn. If you find one false, say at which input.
  Laid BY PROGRAM, IN A SANDBOX (cutbox-rows.mjs): the forced cells as the released guide's own fill.sh prints them over the translation 3830d2408e72db43… (all of the seat's roots in one cut). By AI agents, Wed Nov 11 2026. No macro, syntax, notation, axiom, sorry.
-/
import Derived.Test.YtdmdpfjnbifegaaChecked
import GoSem.Claim
import GoSem.ClaimJoined
import GoSem.ClaimMapViews
import Derived.JoinedTies
import Derived.KernelRfl
namespace Go.Proofs.Ytdmdpfjnbifegaa
/- THE CELL 'sum', in the pinned program and in every row, IS THE sha256 OF THE DUMP (.gsa) THAT YtdmdpfjnbifegaaProg.lean LOADS. Nothing in Lean hashes anything: it is a label: what it is worth is what the hold of that sum in a sandbox is worth. -/
noncomputable def Try.pinned : Pinned := { name := "ytdmdpfjnbifegaa", sum := "3830d2408e72db43d9aadfede5ed305ee3db19c465f370e59000f8fef43f4100", checked := Try.checked }
namespace Rows
def none {H : Type} : Left H := { results := [], args := [] }

/-- 'quarterdecklaw06.LatchDoes': WHATEVER THE INPUT: true; the input reads as it did. -/
def latchDoesSpec : ChangeSpec := { name := "latchDoes", fn := fun _ => fun
  | [d1, d2] => { results := [.lit (.bool true)], args := [d1, d2] }
  | _ => none }
def latchDoesRow : OpenClaim := { program := "ytdmdpfjnbifegaa", sum := "3830d2408e72db43d9aadfede5ed305ee3db19c465f370e59000f8fef43f4100", func := "quarterdeck/quarterdecklaw06.LatchDoes", spec := "latchDoes", apart := false }
def LatchDoesSaid : Prop := latchDoesRow.holds Try.pinned (OpenSpec.ofChange latchDoesSpec)

/-- ITS FALSE NEIGHBOUR: 'it returns false'. Refute it at one input. -/
def latchDoesWrong : ChangeSpec := { name := "latchDoes", fn := fun _ => fun
  | [d1, d2] => { results := [.lit (.bool false)], args := [d1, d2] }
  | _ => none }
def LatchDoesWrongFalsely : Prop := latchDoesRow.holds Try.pinned (OpenSpec.ofChange latchDoesWrong)

/-- 'quarterdecklaw06.LatchCounts': WHATEVER THE INPUT: true; the input reads as it did. -/
def latchCountsSpec : ChangeSpec := { name := "latchCounts", fn := fun _ => fun
  | [d1, d2] => { results := [.lit (.bool true)], args := [d1, d2] }
  | _ => none }
def latchCountsRow : OpenClaim := { program := "ytdmdpfjnbifegaa", sum := "3830d2408e72db43d9aadfede5ed305ee3db19c465f370e59000f8fef43f4100", func := "quarterdeck/quarterdecklaw06.LatchCounts", spec := "latchCounts", apart := false }
def LatchCountsSaid : Prop := latchCountsRow.holds Try.pinned (OpenSpec.ofChange latchCountsSpec)

/-- ITS FALSE NEIGHBOUR: 'it returns false'. Refute it at one input. -/
def latchCountsWrong : ChangeSpec := { name := "latchCounts", fn := fun _ => fun
  | [d1, d2] => { results := [.lit (.bool false)], args := [d1, d2] }
  | _ => none }
def LatchCountsWrongFalsely : Prop := latchCountsRow.holds Try.pinned (OpenSpec.ofChange latchCountsWrong)

/-- 'quarterdecklaw06.LatchOwn': WHATEVER THE INPUT: true; the input reads as it did. -/
def latchOwnSpec : ChangeSpec := { name := "latchOwn", fn := fun _ => fun
  | [d1, d2, d3] => { results := [.lit (.bool true)], args := [d1, d2, d3] }
  | _ => none }
def latchOwnRow : OpenClaim := { program := "ytdmdpfjnbifegaa", sum := "3830d2408e72db43d9aadfede5ed305ee3db19c465f370e59000f8fef43f4100", func := "quarterdeck/quarterdecklaw06.LatchOwn", spec := "latchOwn", apart := false }
def LatchOwnSaid : Prop := latchOwnRow.holds Try.pinned (OpenSpec.ofChange latchOwnSpec)

/-- ITS FALSE NEIGHBOUR: 'it returns false'. Refute it at one input. -/
def latchOwnWrong : ChangeSpec := { name := "latchOwn", fn := fun _ => fun
  | [d1, d2, d3] => { results := [.lit (.bool false)], args := [d1, d2, d3] }
  | _ => none }
def LatchOwnWrongFalsely : Prop := latchOwnRow.holds Try.pinned (OpenSpec.ofChange latchOwnWrong)

/-- 'quarterdecklaw06.LatchJoins': WHATEVER THE INPUT: true; the input reads as it did. -/
def latchJoinsSpec : ChangeSpec := { name := "latchJoins", fn := fun _ => fun
  | [d1, d2, d3] => { results := [.lit (.bool true)], args := [d1, d2, d3] }
  | _ => none }
def latchJoinsRow : OpenClaim := { program := "ytdmdpfjnbifegaa", sum := "3830d2408e72db43d9aadfede5ed305ee3db19c465f370e59000f8fef43f4100", func := "quarterdeck/quarterdecklaw06.LatchJoins", spec := "latchJoins", apart := false }
def LatchJoinsSaid : Prop := latchJoinsRow.holds Try.pinned (OpenSpec.ofChange latchJoinsSpec)

/-- ITS FALSE NEIGHBOUR: 'it returns false'. Refute it at one input. -/
def latchJoinsWrong : ChangeSpec := { name := "latchJoins", fn := fun _ => fun
  | [d1, d2, d3] => { results := [.lit (.bool false)], args := [d1, d2, d3] }
  | _ => none }
def LatchJoinsWrongFalsely : Prop := latchJoinsRow.holds Try.pinned (OpenSpec.ofChange latchJoinsWrong)

/-- 'quarterdecklaw06.LatchDeep': WHATEVER THE INPUT: true; the input reads as it did. -/
def latchDeepSpec : ChangeSpec := { name := "latchDeep", fn := fun _ => fun
  | [d] => { results := [.lit (.bool true)], args := [d] }
  | _ => none }
def latchDeepRow : OpenClaim := { program := "ytdmdpfjnbifegaa", sum := "3830d2408e72db43d9aadfede5ed305ee3db19c465f370e59000f8fef43f4100", func := "quarterdeck/quarterdecklaw06.LatchDeep", spec := "latchDeep", apart := false }
def LatchDeepSaid : Prop := latchDeepRow.holds Try.pinned (OpenSpec.ofChange latchDeepSpec)

/-- ITS FALSE NEIGHBOUR: 'it returns false'. Refute it at one input. -/
def latchDeepWrong : ChangeSpec := { name := "latchDeep", fn := fun _ => fun
  | [d] => { results := [.lit (.bool false)], args := [d] }
  | _ => none }
def LatchDeepWrongFalsely : Prop := latchDeepRow.holds Try.pinned (OpenSpec.ofChange latchDeepWrong)

/- THE SECOND FORM. 'bulk': how many values and letters a reading holds, each counted each time it is reached (what is shared counts as often as it is met; a slice's spare places count too). A statement '..UptoSaid' is the law's where the arguments, and the package variables that the reading takes, are together of bulk at most 1048576: NARROWER than '..Said'. Prove '..Said' where nothing that the law and all that it calls make is longer than what came in: it says more and counts as full. Else prove '..UptoSaid'. A law counts once. -/
mutual
def uptoBulk {H : Type} : DataW H → Nat
  | .lit (.string bytes) => bytes.length + 1
  | .lit _ => 1
  | .nil => 1
  | .ptr d => uptoBulk d + 1
  | .slice elems spare => uptoBulkAll elems + uptoBulkAll spare + 1
  | .agg parts => uptoBulkAll parts + 1
  | .iface _ d => uptoBulk d + 1
  | .map entries => uptoBulkEntries entries + 1
  | .held _ => 1
def uptoBulkAll {H : Type} : List (DataW H) → Nat
  | [] => 0
  | d :: r => uptoBulk d + uptoBulkAll r
def uptoBulkEntries {H : Type} : List (Lit × DataW H) → Nat
  | [] => 0
  | x :: r => uptoBulkEntry x + uptoBulkEntries r
def uptoBulkEntry {H : Type} : Lit × DataW H → Nat
  | (.string bytes, d) => bytes.length + uptoBulk d + 1
  | (_, d) => uptoBulk d + 1
 end
def uptoSmall : (H : Type) → List (DataW H) → Bool := fun _ ds => decide (uptoBulkAll ds ≤ 1048576)
def OpenSpec.upto (s : _root_.Go.ChangeSpec) : _root_.Go.OpenSpec := { _root_.Go.OpenSpec.ofChange s with cond := some uptoSmall }

/-- 'quarterdecklaw06.LatchDoes', WHERE WHAT IT READS IS OF BULK AT MOST 1048576: true; the input reads as it did. -/
def latchDoesUptoRow : OpenClaim := { program := "ytdmdpfjnbifegaa", sum := "3830d2408e72db43d9aadfede5ed305ee3db19c465f370e59000f8fef43f4100", func := "quarterdeck/quarterdecklaw06.LatchDoes", spec := "latchDoes", apart := false, narrowed := true }
def LatchDoesUptoSaid : Prop := latchDoesUptoRow.holds Try.pinned (OpenSpec.upto latchDoesSpec)

/-- 'quarterdecklaw06.LatchCounts', WHERE WHAT IT READS IS OF BULK AT MOST 1048576: true; the input reads as it did. -/
def latchCountsUptoRow : OpenClaim := { program := "ytdmdpfjnbifegaa", sum := "3830d2408e72db43d9aadfede5ed305ee3db19c465f370e59000f8fef43f4100", func := "quarterdeck/quarterdecklaw06.LatchCounts", spec := "latchCounts", apart := false, narrowed := true }
def LatchCountsUptoSaid : Prop := latchCountsUptoRow.holds Try.pinned (OpenSpec.upto latchCountsSpec)

/-- 'quarterdecklaw06.LatchOwn', WHERE WHAT IT READS IS OF BULK AT MOST 1048576: true; the input reads as it did. -/
def latchOwnUptoRow : OpenClaim := { program := "ytdmdpfjnbifegaa", sum := "3830d2408e72db43d9aadfede5ed305ee3db19c465f370e59000f8fef43f4100", func := "quarterdeck/quarterdecklaw06.LatchOwn", spec := "latchOwn", apart := false, narrowed := true }
def LatchOwnUptoSaid : Prop := latchOwnUptoRow.holds Try.pinned (OpenSpec.upto latchOwnSpec)

/-- 'quarterdecklaw06.LatchJoins', WHERE WHAT IT READS IS OF BULK AT MOST 1048576: true; the input reads as it did. -/
def latchJoinsUptoRow : OpenClaim := { program := "ytdmdpfjnbifegaa", sum := "3830d2408e72db43d9aadfede5ed305ee3db19c465f370e59000f8fef43f4100", func := "quarterdeck/quarterdecklaw06.LatchJoins", spec := "latchJoins", apart := false, narrowed := true }
def LatchJoinsUptoSaid : Prop := latchJoinsUptoRow.holds Try.pinned (OpenSpec.upto latchJoinsSpec)

/-- 'quarterdecklaw06.LatchDeep', WHERE WHAT IT READS IS OF BULK AT MOST 1048576: true; the input reads as it did. -/
def latchDeepUptoRow : OpenClaim := { program := "ytdmdpfjnbifegaa", sum := "3830d2408e72db43d9aadfede5ed305ee3db19c465f370e59000f8fef43f4100", func := "quarterdeck/quarterdecklaw06.LatchDeep", spec := "latchDeep", apart := false, narrowed := true }
def LatchDeepUptoSaid : Prop := latchDeepUptoRow.holds Try.pinned (OpenSpec.upto latchDeepSpec)

end Rows
end Go.Proofs.Ytdmdpfjnbifegaa
