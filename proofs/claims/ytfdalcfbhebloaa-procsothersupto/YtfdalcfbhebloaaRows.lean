/-
  No cell of these rows narrows 'for every input' (looked for: loops, veiled, ifaces, maps, wideKeys, modest, calm, conditions, laid).
  DERIVED. THE GIVEN ROWS OF THIS SEAT. 7 by the template 'for every input the law returns true; each argument reads behind the call as it read before'; 0 by the template 'total and deterministic' (their statements: YtfdalcfbhebloaaTotals.lean).
  GIVEN WITH THE SEED: the statements are not yours to turn. If you find one false, say at which input.
  Laid BY PROGRAM, IN A SANDBOX (cutbox-rows.mjs): the forced cells as the released guide's own fill.sh prints them over the translation 4542ced59f8c44d7… (all of the seat's roots in one cut). By AI agents, Wed Nov 11 2026. No macro, syntax, notation, axiom, sorry.
-/
import Derived.Test.YtfdalcfbhebloaaChecked
import GoSem.Claim
import GoSem.ClaimJoined
import GoSem.ClaimMapViews
import Derived.JoinedTies
import Derived.KernelRfl
namespace Go.Proofs.Ytfdalcfbhebloaa
/- THE CELL 'sum', in the pinned program and in every row, IS THE sha256 OF THE DUMP (.gsa) THAT YtfdalcfbhebloaaProg.lean LOADS. Nothing in Lean hashes anything: it is a label: what it is worth is what the hold of that sum in a sandbox is worth. -/
noncomputable def Try.pinned : Pinned := { name := "ytfdalcfbhebloaa", sum := "4542ced59f8c44d75aac3a68d86447b7d9253b821b227ac88029e055ff2e0de4", checked := Try.checked }
namespace Rows
def none {H : Type} : Left H := { results := [], args := [] }

/-- 'quarterdecklaw10.ProcsChange': WHATEVER THE INPUT: true; the input reads as it did. -/
def procsChangeSpec : ChangeSpec := { name := "procsChange", fn := fun _ => fun
  | [d1, d2, d3, d4] => { results := [.lit (.bool true)], args := [d1, d2, d3, d4] }
  | _ => none }
def procsChangeRow : OpenClaim := { program := "ytfdalcfbhebloaa", sum := "4542ced59f8c44d75aac3a68d86447b7d9253b821b227ac88029e055ff2e0de4", func := "quarterdeck/quarterdecklaw10.ProcsChange", spec := "procsChange", unfollowed := true, recurses := true, apart := false }
def ProcsChangeSaid : Prop := procsChangeRow.holds Try.pinned (OpenSpec.ofChange procsChangeSpec)

/-- ITS FALSE NEIGHBOUR: 'it returns false'. Refute it at one input. -/
def procsChangeWrong : ChangeSpec := { name := "procsChange", fn := fun _ => fun
  | [d1, d2, d3, d4] => { results := [.lit (.bool false)], args := [d1, d2, d3, d4] }
  | _ => none }
def ProcsChangeWrongFalsely : Prop := procsChangeRow.holds Try.pinned (OpenSpec.ofChange procsChangeWrong)

/-- 'quarterdecklaw10.ProcsWait': WHATEVER THE INPUT: true; the input reads as it did. -/
def procsWaitSpec : ChangeSpec := { name := "procsWait", fn := fun _ => fun
  | [d1, d2, d3, d4, d5, d6] => { results := [.lit (.bool true)], args := [d1, d2, d3, d4, d5, d6] }
  | _ => none }
def procsWaitRow : OpenClaim := { program := "ytfdalcfbhebloaa", sum := "4542ced59f8c44d75aac3a68d86447b7d9253b821b227ac88029e055ff2e0de4", func := "quarterdeck/quarterdecklaw10.ProcsWait", spec := "procsWait", unfollowed := true, recurses := true, apart := false }
def ProcsWaitSaid : Prop := procsWaitRow.holds Try.pinned (OpenSpec.ofChange procsWaitSpec)

/-- ITS FALSE NEIGHBOUR: 'it returns false'. Refute it at one input. -/
def procsWaitWrong : ChangeSpec := { name := "procsWait", fn := fun _ => fun
  | [d1, d2, d3, d4, d5, d6] => { results := [.lit (.bool false)], args := [d1, d2, d3, d4, d5, d6] }
  | _ => none }
def ProcsWaitWrongFalsely : Prop := procsWaitRow.holds Try.pinned (OpenSpec.ofChange procsWaitWrong)

/-- 'quarterdecklaw10.ProcsOthers': WHATEVER THE INPUT: true; the input reads as it did. -/
def procsOthersSpec : ChangeSpec := { name := "procsOthers", fn := fun _ => fun
  | [d1, d2, d3, d4, d5] => { results := [.lit (.bool true)], args := [d1, d2, d3, d4, d5] }
  | _ => none }
def procsOthersRow : OpenClaim := { program := "ytfdalcfbhebloaa", sum := "4542ced59f8c44d75aac3a68d86447b7d9253b821b227ac88029e055ff2e0de4", func := "quarterdeck/quarterdecklaw10.ProcsOthers", spec := "procsOthers", unfollowed := true, recurses := true, apart := false }
def ProcsOthersSaid : Prop := procsOthersRow.holds Try.pinned (OpenSpec.ofChange procsOthersSpec)

/-- ITS FALSE NEIGHBOUR: 'it returns false'. Refute it at one input. -/
def procsOthersWrong : ChangeSpec := { name := "procsOthers", fn := fun _ => fun
  | [d1, d2, d3, d4, d5] => { results := [.lit (.bool false)], args := [d1, d2, d3, d4, d5] }
  | _ => none }
def ProcsOthersWrongFalsely : Prop := procsOthersRow.holds Try.pinned (OpenSpec.ofChange procsOthersWrong)

/-- 'quarterdecklaw10.ProcsOwn': WHATEVER THE INPUT: true; the input reads as it did. -/
def procsOwnSpec : ChangeSpec := { name := "procsOwn", fn := fun _ => fun
  | [d1, d2, d3, d4] => { results := [.lit (.bool true)], args := [d1, d2, d3, d4] }
  | _ => none }
def procsOwnRow : OpenClaim := { program := "ytfdalcfbhebloaa", sum := "4542ced59f8c44d75aac3a68d86447b7d9253b821b227ac88029e055ff2e0de4", func := "quarterdeck/quarterdecklaw10.ProcsOwn", spec := "procsOwn", unfollowed := true, recurses := true, apart := false }
def ProcsOwnSaid : Prop := procsOwnRow.holds Try.pinned (OpenSpec.ofChange procsOwnSpec)

/-- ITS FALSE NEIGHBOUR: 'it returns false'. Refute it at one input. -/
def procsOwnWrong : ChangeSpec := { name := "procsOwn", fn := fun _ => fun
  | [d1, d2, d3, d4] => { results := [.lit (.bool false)], args := [d1, d2, d3, d4] }
  | _ => none }
def ProcsOwnWrongFalsely : Prop := procsOwnRow.holds Try.pinned (OpenSpec.ofChange procsOwnWrong)

/-- 'quarterdecklaw10.ProcsStarts': WHATEVER THE INPUT: true; the input reads as it did. -/
def procsStartsSpec : ChangeSpec := { name := "procsStarts", fn := fun _ => fun
  | [d1, d2, d3, d4] => { results := [.lit (.bool true)], args := [d1, d2, d3, d4] }
  | _ => none }
def procsStartsRow : OpenClaim := { program := "ytfdalcfbhebloaa", sum := "4542ced59f8c44d75aac3a68d86447b7d9253b821b227ac88029e055ff2e0de4", func := "quarterdeck/quarterdecklaw10.ProcsStarts", spec := "procsStarts", unfollowed := true, recurses := true, apart := false }
def ProcsStartsSaid : Prop := procsStartsRow.holds Try.pinned (OpenSpec.ofChange procsStartsSpec)

/-- ITS FALSE NEIGHBOUR: 'it returns false'. Refute it at one input. -/
def procsStartsWrong : ChangeSpec := { name := "procsStarts", fn := fun _ => fun
  | [d1, d2, d3, d4] => { results := [.lit (.bool false)], args := [d1, d2, d3, d4] }
  | _ => none }
def ProcsStartsWrongFalsely : Prop := procsStartsRow.holds Try.pinned (OpenSpec.ofChange procsStartsWrong)

/-- 'quarterdecklaw10.ProcsSuspends': WHATEVER THE INPUT: true; the input reads as it did. -/
def procsSuspendsSpec : ChangeSpec := { name := "procsSuspends", fn := fun _ => fun
  | [d1, d2, d3] => { results := [.lit (.bool true)], args := [d1, d2, d3] }
  | _ => none }
def procsSuspendsRow : OpenClaim := { program := "ytfdalcfbhebloaa", sum := "4542ced59f8c44d75aac3a68d86447b7d9253b821b227ac88029e055ff2e0de4", func := "quarterdeck/quarterdecklaw10.ProcsSuspends", spec := "procsSuspends", unfollowed := true, recurses := true, apart := false }
def ProcsSuspendsSaid : Prop := procsSuspendsRow.holds Try.pinned (OpenSpec.ofChange procsSuspendsSpec)

/-- ITS FALSE NEIGHBOUR: 'it returns false'. Refute it at one input. -/
def procsSuspendsWrong : ChangeSpec := { name := "procsSuspends", fn := fun _ => fun
  | [d1, d2, d3] => { results := [.lit (.bool false)], args := [d1, d2, d3] }
  | _ => none }
def ProcsSuspendsWrongFalsely : Prop := procsSuspendsRow.holds Try.pinned (OpenSpec.ofChange procsSuspendsWrong)

/-- 'quarterdecklaw10.ProcsGoes': WHATEVER THE INPUT: true; the input reads as it did. -/
def procsGoesSpec : ChangeSpec := { name := "procsGoes", fn := fun _ => fun
  | [d1, d2, d3, d4] => { results := [.lit (.bool true)], args := [d1, d2, d3, d4] }
  | _ => none }
def procsGoesRow : OpenClaim := { program := "ytfdalcfbhebloaa", sum := "4542ced59f8c44d75aac3a68d86447b7d9253b821b227ac88029e055ff2e0de4", func := "quarterdeck/quarterdecklaw10.ProcsGoes", spec := "procsGoes", unfollowed := true, recurses := true, apart := false }
def ProcsGoesSaid : Prop := procsGoesRow.holds Try.pinned (OpenSpec.ofChange procsGoesSpec)

/-- ITS FALSE NEIGHBOUR: 'it returns false'. Refute it at one input. -/
def procsGoesWrong : ChangeSpec := { name := "procsGoes", fn := fun _ => fun
  | [d1, d2, d3, d4] => { results := [.lit (.bool false)], args := [d1, d2, d3, d4] }
  | _ => none }
def ProcsGoesWrongFalsely : Prop := procsGoesRow.holds Try.pinned (OpenSpec.ofChange procsGoesWrong)

/- THE SECOND FORM. 'bulk': how many values and letters a reading holds, each counted each time it is reached (what is shared counts as often as it is met; a slice's spare places count too). A statement '..UptoSaid' is the law's where the arguments, and the package variables that the reading takes, are together of bulk at most 1048576: NARROWER than '..Said'. Prove '..Said' where nothing that the law and all that it calls make is longer than what came in: it says more and counts as full. Else prove '..UptoSaid'. A law counts once. -/
mutual
def uptoBulk {H : Type} : DataW H → Nat
  | .lit (.string bytes) => bytes.length + 1
  | .lit _ => 1
  | .nil => 1
  | .ptr d => uptoBulk d + 1
  | .slice elems spare => uptoBulkAll elems + uptoBulkAll spare + 1
  | .agg parts => uptoBulkAll parts + 1
  | .iface _ d => uptoBulk d + 1
  | .map entries => uptoBulkEntries entries + 1
  | .held _ => 1
def uptoBulkAll {H : Type} : List (DataW H) → Nat
  | [] => 0
  | d :: r => uptoBulk d + uptoBulkAll r
def uptoBulkEntries {H : Type} : List (Lit × DataW H) → Nat
  | [] => 0
  | x :: r => uptoBulkEntry x + uptoBulkEntries r
def uptoBulkEntry {H : Type} : Lit × DataW H → Nat
  | (.string bytes, d) => bytes.length + uptoBulk d + 1
  | (_, d) => uptoBulk d + 1
 end
def uptoSmall : (H : Type) → List (DataW H) → Bool := fun _ ds => decide (uptoBulkAll ds ≤ 1048576)
def OpenSpec.upto (s : _root_.Go.ChangeSpec) : _root_.Go.OpenSpec := { _root_.Go.OpenSpec.ofChange s with cond := some uptoSmall }

/-- 'quarterdecklaw10.ProcsChange', WHERE WHAT IT READS IS OF BULK AT MOST 1048576: true; the input reads as it did. -/
def procsChangeUptoRow : OpenClaim := { program := "ytfdalcfbhebloaa", sum := "4542ced59f8c44d75aac3a68d86447b7d9253b821b227ac88029e055ff2e0de4", func := "quarterdeck/quarterdecklaw10.ProcsChange", spec := "procsChange", unfollowed := true, recurses := true, apart := false, narrowed := true }
def ProcsChangeUptoSaid : Prop := procsChangeUptoRow.holds Try.pinned (OpenSpec.upto procsChangeSpec)

/-- 'quarterdecklaw10.ProcsWait', WHERE WHAT IT READS IS OF BULK AT MOST 1048576: true; the input reads as it did. -/
def procsWaitUptoRow : OpenClaim := { program := "ytfdalcfbhebloaa", sum := "4542ced59f8c44d75aac3a68d86447b7d9253b821b227ac88029e055ff2e0de4", func := "quarterdeck/quarterdecklaw10.ProcsWait", spec := "procsWait", unfollowed := true, recurses := true, apart := false, narrowed := true }
def ProcsWaitUptoSaid : Prop := procsWaitUptoRow.holds Try.pinned (OpenSpec.upto procsWaitSpec)

/-- 'quarterdecklaw10.ProcsOthers', WHERE WHAT IT READS IS OF BULK AT MOST 1048576: true; the input reads as it did. -/
def procsOthersUptoRow : OpenClaim := { program := "ytfdalcfbhebloaa", sum := "4542ced59f8c44d75aac3a68d86447b7d9253b821b227ac88029e055ff2e0de4", func := "quarterdeck/quarterdecklaw10.ProcsOthers", spec := "procsOthers", unfollowed := true, recurses := true, apart := false, narrowed := true }
def ProcsOthersUptoSaid : Prop := procsOthersUptoRow.holds Try.pinned (OpenSpec.upto procsOthersSpec)

/-- 'quarterdecklaw10.ProcsOwn', WHERE WHAT IT READS IS OF BULK AT MOST 1048576: true; the input reads as it did. -/
def procsOwnUptoRow : OpenClaim := { program := "ytfdalcfbhebloaa", sum := "4542ced59f8c44d75aac3a68d86447b7d9253b821b227ac88029e055ff2e0de4", func := "quarterdeck/quarterdecklaw10.ProcsOwn", spec := "procsOwn", unfollowed := true, recurses := true, apart := false, narrowed := true }
def ProcsOwnUptoSaid : Prop := procsOwnUptoRow.holds Try.pinned (OpenSpec.upto procsOwnSpec)

/-- 'quarterdecklaw10.ProcsStarts', WHERE WHAT IT READS IS OF BULK AT MOST 1048576: true; the input reads as it did. -/
def procsStartsUptoRow : OpenClaim := { program := "ytfdalcfbhebloaa", sum := "4542ced59f8c44d75aac3a68d86447b7d9253b821b227ac88029e055ff2e0de4", func := "quarterdeck/quarterdecklaw10.ProcsStarts", spec := "procsStarts", unfollowed := true, recurses := true, apart := false, narrowed := true }
def ProcsStartsUptoSaid : Prop := procsStartsUptoRow.holds Try.pinned (OpenSpec.upto procsStartsSpec)

/-- 'quarterdecklaw10.ProcsSuspends', WHERE WHAT IT READS IS OF BULK AT MOST 1048576: true; the input reads as it did. -/
def procsSuspendsUptoRow : OpenClaim := { program := "ytfdalcfbhebloaa", sum := "4542ced59f8c44d75aac3a68d86447b7d9253b821b227ac88029e055ff2e0de4", func := "quarterdeck/quarterdecklaw10.ProcsSuspends", spec := "procsSuspends", unfollowed := true, recurses := true, apart := false, narrowed := true }
def ProcsSuspendsUptoSaid : Prop := procsSuspendsUptoRow.holds Try.pinned (OpenSpec.upto procsSuspendsSpec)

/-- 'quarterdecklaw10.ProcsGoes', WHERE WHAT IT READS IS OF BULK AT MOST 1048576: true; the input reads as it did. -/
def procsGoesUptoRow : OpenClaim := { program := "ytfdalcfbhebloaa", sum := "4542ced59f8c44d75aac3a68d86447b7d9253b821b227ac88029e055ff2e0de4", func := "quarterdeck/quarterdecklaw10.ProcsGoes", spec := "procsGoes", unfollowed := true, recurses := true, apart := false, narrowed := true }
def ProcsGoesUptoSaid : Prop := procsGoesUptoRow.holds Try.pinned (OpenSpec.upto procsGoesSpec)

end Rows
end Go.Proofs.Ytfdalcfbhebloaa
