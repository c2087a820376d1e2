/-
  No cell of these rows narrows 'for every input' (looked for: loops, veiled, ifaces, maps, wideKeys, modest, calm, conditions, laid).
  DERIVED. THE GIVEN ROWS OF THIS SEAT. 5 by the template 'for every input the law returns true; each argument reads behind the call as it read before'; 0 by the template 'total and deterministic' (their statements: YtjdaneppjgljpaaTotals.lean).
  GIVEN WITH THE SEED: the statements are not yours to turn. If you find one false, say at which input.
  Laid BY PROGRAM, IN A SANDBOX (cutbox-rows.mjs): the forced cells as the released guide's own fill.sh prints them over the translation 6d9d0e214d1bb3f0… (all of the seat's roots in one cut). By AI agents, Wed Nov 11 2026. No macro, syntax, notation, axiom, sorry.
-/
import Derived.Test.YtjdaneppjgljpaaChecked
import GoSem.Claim
import GoSem.ClaimJoined
import GoSem.ClaimMapViews
import Derived.JoinedTies
import Derived.KernelRfl
namespace Go.Proofs.Ytjdaneppjgljpaa
/- THE CELL 'sum', in the pinned program and in every row, IS THE sha256 OF THE DUMP (.gsa) THAT YtjdaneppjgljpaaProg.lean LOADS. Nothing in Lean hashes anything: it is a label: what it is worth is what the hold of that sum in a sandbox is worth. -/
noncomputable def Try.pinned : Pinned := { name := "ytjdaneppjgljpaa", sum := "6d9d0e214d1bb3f0b19188b110693832a85a884e894bea7f9ff79c2810bc6d27", checked := Try.checked }
namespace Rows
def none {H : Type} : Left H := { results := [], args := [] }

/-- 'quarterdecklaw15.SemaDoes': WHATEVER THE INPUT: true; the input reads as it did. -/
def semaDoesSpec : ChangeSpec := { name := "semaDoes", fn := fun _ => fun
  | [d1, d2, d3] => { results := [.lit (.bool true)], args := [d1, d2, d3] }
  | _ => none }
def semaDoesRow : OpenClaim := { program := "ytjdaneppjgljpaa", sum := "6d9d0e214d1bb3f0b19188b110693832a85a884e894bea7f9ff79c2810bc6d27", func := "quarterdeck/quarterdecklaw15.SemaDoes", spec := "semaDoes", unfollowed := true, recurses := true, apart := false }
def SemaDoesSaid : Prop := semaDoesRow.holds Try.pinned (OpenSpec.ofChange semaDoesSpec)

/-- ITS FALSE NEIGHBOUR: 'it returns false'. Refute it at one input. -/
def semaDoesWrong : ChangeSpec := { name := "semaDoes", fn := fun _ => fun
  | [d1, d2, d3] => { results := [.lit (.bool false)], args := [d1, d2, d3] }
  | _ => none }
def SemaDoesWrongFalsely : Prop := semaDoesRow.holds Try.pinned (OpenSpec.ofChange semaDoesWrong)

/-- 'quarterdecklaw15.SemaCounts': WHATEVER THE INPUT: true; the input reads as it did. -/
def semaCountsSpec : ChangeSpec := { name := "semaCounts", fn := fun _ => fun
  | [d1, d2, d3, d4] => { results := [.lit (.bool true)], args := [d1, d2, d3, d4] }
  | _ => none }
def semaCountsRow : OpenClaim := { program := "ytjdaneppjgljpaa", sum := "6d9d0e214d1bb3f0b19188b110693832a85a884e894bea7f9ff79c2810bc6d27", func := "quarterdeck/quarterdecklaw15.SemaCounts", spec := "semaCounts", unfollowed := true, recurses := true, apart := false }
def SemaCountsSaid : Prop := semaCountsRow.holds Try.pinned (OpenSpec.ofChange semaCountsSpec)

/-- ITS FALSE NEIGHBOUR: 'it returns false'. Refute it at one input. -/
def semaCountsWrong : ChangeSpec := { name := "semaCounts", fn := fun _ => fun
  | [d1, d2, d3, d4] => { results := [.lit (.bool false)], args := [d1, d2, d3, d4] }
  | _ => none }
def SemaCountsWrongFalsely : Prop := semaCountsRow.holds Try.pinned (OpenSpec.ofChange semaCountsWrong)

/-- 'quarterdecklaw15.SemaFull': WHATEVER THE INPUT: true; the input reads as it did. -/
def semaFullSpec : ChangeSpec := { name := "semaFull", fn := fun _ => fun
  | [d1, d2] => { results := [.lit (.bool true)], args := [d1, d2] }
  | _ => none }
def semaFullRow : OpenClaim := { program := "ytjdaneppjgljpaa", sum := "6d9d0e214d1bb3f0b19188b110693832a85a884e894bea7f9ff79c2810bc6d27", func := "quarterdeck/quarterdecklaw15.SemaFull", spec := "semaFull", unfollowed := true, recurses := true, apart := false }
def SemaFullSaid : Prop := semaFullRow.holds Try.pinned (OpenSpec.ofChange semaFullSpec)

/-- ITS FALSE NEIGHBOUR: 'it returns false'. Refute it at one input. -/
def semaFullWrong : ChangeSpec := { name := "semaFull", fn := fun _ => fun
  | [d1, d2] => { results := [.lit (.bool false)], args := [d1, d2] }
  | _ => none }
def SemaFullWrongFalsely : Prop := semaFullRow.holds Try.pinned (OpenSpec.ofChange semaFullWrong)

/-- 'quarterdecklaw15.SemaRanks': WHATEVER THE INPUT: true; the input reads as it did. -/
def semaRanksSpec : ChangeSpec := { name := "semaRanks", fn := fun _ => fun
  | [d1, d2] => { results := [.lit (.bool true)], args := [d1, d2] }
  | _ => none }
def semaRanksRow : OpenClaim := { program := "ytjdaneppjgljpaa", sum := "6d9d0e214d1bb3f0b19188b110693832a85a884e894bea7f9ff79c2810bc6d27", func := "quarterdeck/quarterdecklaw15.SemaRanks", spec := "semaRanks", unfollowed := true, recurses := true, apart := false }
def SemaRanksSaid : Prop := semaRanksRow.holds Try.pinned (OpenSpec.ofChange semaRanksSpec)

/-- ITS FALSE NEIGHBOUR: 'it returns false'. Refute it at one input. -/
def semaRanksWrong : ChangeSpec := { name := "semaRanks", fn := fun _ => fun
  | [d1, d2] => { results := [.lit (.bool false)], args := [d1, d2] }
  | _ => none }
def SemaRanksWrongFalsely : Prop := semaRanksRow.holds Try.pinned (OpenSpec.ofChange semaRanksWrong)

/-- 'quarterdecklaw15.SemaOwn': WHATEVER THE INPUT: true; the input reads as it did. -/
def semaOwnSpec : ChangeSpec := { name := "semaOwn", fn := fun _ => fun
  | [d1, d2] => { results := [.lit (.bool true)], args := [d1, d2] }
  | _ => none }
def semaOwnRow : OpenClaim := { program := "ytjdaneppjgljpaa", sum := "6d9d0e214d1bb3f0b19188b110693832a85a884e894bea7f9ff79c2810bc6d27", func := "quarterdeck/quarterdecklaw15.SemaOwn", spec := "semaOwn", unfollowed := true, recurses := true, apart := false }
def SemaOwnSaid : Prop := semaOwnRow.holds Try.pinned (OpenSpec.ofChange semaOwnSpec)

/-- ITS FALSE NEIGHBOUR: 'it returns false'. Refute it at one input. -/
def semaOwnWrong : ChangeSpec := { name := "semaOwn", fn := fun _ => fun
  | [d1, d2] => { results := [.lit (.bool false)], args := [d1, d2] }
  | _ => none }
def SemaOwnWrongFalsely : Prop := semaOwnRow.holds Try.pinned (OpenSpec.ofChange semaOwnWrong)

/- THE SECOND FORM. 'bulk': how many values and letters a reading holds, each counted each time it is reached (what is shared counts as often as it is met; a slice's spare places count too). A statement '..UptoSaid' is the law's where the arguments, and the package variables that the reading takes, are together of bulk at most 1048576: NARROWER than '..Said'. Prove '..Said' where nothing that the law and all that it calls make is longer than what came in: it says more and counts as full. Else prove '..UptoSaid'. A law counts once. -/
mutual
def uptoBulk {H : Type} : DataW H → Nat
  | .lit (.string bytes) => bytes.length + 1
  | .lit _ => 1
  | .nil => 1
  | .ptr d => uptoBulk d + 1
  | .slice elems spare => uptoBulkAll elems + uptoBulkAll spare + 1
  | .agg parts => uptoBulkAll parts + 1
  | .iface _ d => uptoBulk d + 1
  | .map entries => uptoBulkEntries entries + 1
  | .held _ => 1
def uptoBulkAll {H : Type} : List (DataW H) → Nat
  | [] => 0
  | d :: r => uptoBulk d + uptoBulkAll r
def uptoBulkEntries {H : Type} : List (Lit × DataW H) → Nat
  | [] => 0
  | x :: r => uptoBulkEntry x + uptoBulkEntries r
def uptoBulkEntry {H : Type} : Lit × DataW H → Nat
  | (.string bytes, d) => bytes.length + uptoBulk d + 1
  | (_, d) => uptoBulk d + 1
 end
def uptoSmall : (H : Type) → List (DataW H) → Bool := fun _ ds => decide (uptoBulkAll ds ≤ 1048576)
def OpenSpec.upto (s : _root_.Go.ChangeSpec) : _root_.Go.OpenSpec := { _root_.Go.OpenSpec.ofChange s with cond := some uptoSmall }

/-- 'quarterdecklaw15.SemaDoes', WHERE WHAT IT READS IS OF BULK AT MOST 1048576: true; the input reads as it did. -/
def semaDoesUptoRow : OpenClaim := { program := "ytjdaneppjgljpaa", sum := "6d9d0e214d1bb3f0b19188b110693832a85a884e894bea7f9ff79c2810bc6d27", func := "quarterdeck/quarterdecklaw15.SemaDoes", spec := "semaDoes", unfollowed := true, recurses := true, apart := false, narrowed := true }
def SemaDoesUptoSaid : Prop := semaDoesUptoRow.holds Try.pinned (OpenSpec.upto semaDoesSpec)

/-- 'quarterdecklaw15.SemaCounts', WHERE WHAT IT READS IS OF BULK AT MOST 1048576: true; the input reads as it did. -/
def semaCountsUptoRow : OpenClaim := { program := "ytjdaneppjgljpaa", sum := "6d9d0e214d1bb3f0b19188b110693832a85a884e894bea7f9ff79c2810bc6d27", func := "quarterdeck/quarterdecklaw15.SemaCounts", spec := "semaCounts", unfollowed := true, recurses := true, apart := false, narrowed := true }
def SemaCountsUptoSaid : Prop := semaCountsUptoRow.holds Try.pinned (OpenSpec.upto semaCountsSpec)

/-- 'quarterdecklaw15.SemaFull', WHERE WHAT IT READS IS OF BULK AT MOST 1048576: true; the input reads as it did. -/
def semaFullUptoRow : OpenClaim := { program := "ytjdaneppjgljpaa", sum := "6d9d0e214d1bb3f0b19188b110693832a85a884e894bea7f9ff79c2810bc6d27", func := "quarterdeck/quarterdecklaw15.SemaFull", spec := "semaFull", unfollowed := true, recurses := true, apart := false, narrowed := true }
def SemaFullUptoSaid : Prop := semaFullUptoRow.holds Try.pinned (OpenSpec.upto semaFullSpec)

/-- 'quarterdecklaw15.SemaRanks', WHERE WHAT IT READS IS OF BULK AT MOST 1048576: true; the input reads as it did. -/
def semaRanksUptoRow : OpenClaim := { program := "ytjdaneppjgljpaa", sum := "6d9d0e214d1bb3f0b19188b110693832a85a884e894bea7f9ff79c2810bc6d27", func := "quarterdeck/quarterdecklaw15.SemaRanks", spec := "semaRanks", unfollowed := true, recurses := true, apart := false, narrowed := true }
def SemaRanksUptoSaid : Prop := semaRanksUptoRow.holds Try.pinned (OpenSpec.upto semaRanksSpec)

/-- 'quarterdecklaw15.SemaOwn', WHERE WHAT IT READS IS OF BULK AT MOST 1048576: true; the input reads as it did. -/
def semaOwnUptoRow : OpenClaim := { program := "ytjdaneppjgljpaa", sum := "6d9d0e214d1bb3f0b19188b110693832a85a884e894bea7f9ff79c2810bc6d27", func := "quarterdeck/quarterdecklaw15.SemaOwn", spec := "semaOwn", unfollowed := true, recurses := true, apart := false, narrowed := true }
def SemaOwnUptoSaid : Prop := semaOwnUptoRow.holds Try.pinned (OpenSpec.upto semaOwnSpec)

end Rows
end Go.Proofs.Ytjdaneppjgljpaa
