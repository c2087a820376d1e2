/-
  No cell of these rows narrows 'for every input' (looked for: loops, veiled, ifaces, maps, wideKeys, modest, calm, conditions, laid).
  DERIVED. THE GIVEN ROWS OF THIS SEAT. 5 by the template 'for every input the law returns true; each argument reads behind the call as it read before'; 0 by the template 'total and deterministic' (their statements: YtnbifmfocdejpaaTotals.lean).
  GIVEN WITH THE SEED: the statements are not yours to turn. If you find one false, say at which input.
  Laid BY PROGRAM, IN A SANDBOX (cutbox-rows.mjs): the forced cells as the released guide's own fill.sh prints them over the translation d09c9e6d84756dc9… (all of the seat's roots in one cut). By AI agents, Wed Nov 11 2026. No macro, syntax, notation, axiom, sorry.
-/
import Derived.Test.YtnbifmfocdejpaaChecked
import GoSem.Claim
import GoSem.ClaimJoined
import GoSem.ClaimMapViews
import Derived.JoinedTies
import Derived.KernelRfl
namespace Go.Proofs.Ytnbifmfocdejpaa
/- THE CELL 'sum', in the pinned program and in every row, IS THE sha256 OF THE DUMP (.gsa) THAT YtnbifmfocdejpaaProg.lean LOADS. Nothing in Lean hashes anything: it is a label: what it is worth is what the hold of that sum in a sandbox is worth. -/
noncomputable def Try.pinned : Pinned := { name := "ytnbifmfocdejpaa", sum := "d09c9e6d84756dc9b6c05eb454a40f3073037c3e8971e44f2bc5bcb14dff7e1b", checked := Try.checked }
namespace Rows
def none {H : Type} : Left H := { results := [], args := [] }

/-- 'quarterdecklaw12.WaitersDo': WHATEVER THE INPUT: true; the input reads as it did. -/
def waitersDoSpec : ChangeSpec := { name := "waitersDo", fn := fun _ => fun
  | [d1, d2, d3, d4] => { results := [.lit (.bool true)], args := [d1, d2, d3, d4] }
  | _ => none }
def waitersDoRow : OpenClaim := { program := "ytnbifmfocdejpaa", sum := "d09c9e6d84756dc9b6c05eb454a40f3073037c3e8971e44f2bc5bcb14dff7e1b", func := "quarterdeck/quarterdecklaw12.WaitersDo", spec := "waitersDo", unfollowed := true, recurses := true, apart := false }
def WaitersDoSaid : Prop := waitersDoRow.holds Try.pinned (OpenSpec.ofChange waitersDoSpec)

/-- ITS FALSE NEIGHBOUR: 'it returns false'. Refute it at one input. -/
def waitersDoWrong : ChangeSpec := { name := "waitersDo", fn := fun _ => fun
  | [d1, d2, d3, d4] => { results := [.lit (.bool false)], args := [d1, d2, d3, d4] }
  | _ => none }
def WaitersDoWrongFalsely : Prop := waitersDoRow.holds Try.pinned (OpenSpec.ofChange waitersDoWrong)

/-- 'quarterdecklaw12.WaitersRank': WHATEVER THE INPUT: true; the input reads as it did. -/
def waitersRankSpec : ChangeSpec := { name := "waitersRank", fn := fun _ => fun
  | [d] => { results := [.lit (.bool true)], args := [d] }
  | _ => none }
def waitersRankRow : OpenClaim := { program := "ytnbifmfocdejpaa", sum := "d09c9e6d84756dc9b6c05eb454a40f3073037c3e8971e44f2bc5bcb14dff7e1b", func := "quarterdeck/quarterdecklaw12.WaitersRank", spec := "waitersRank", unfollowed := true, recurses := true, apart := false }
def WaitersRankSaid : Prop := waitersRankRow.holds Try.pinned (OpenSpec.ofChange waitersRankSpec)

/-- ITS FALSE NEIGHBOUR: 'it returns false'. Refute it at one input. -/
def waitersRankWrong : ChangeSpec := { name := "waitersRank", fn := fun _ => fun
  | [d] => { results := [.lit (.bool false)], args := [d] }
  | _ => none }
def WaitersRankWrongFalsely : Prop := waitersRankRow.holds Try.pinned (OpenSpec.ofChange waitersRankWrong)

/-- 'quarterdecklaw12.WaitersCome': WHATEVER THE INPUT: true; the input reads as it did. -/
def waitersComeSpec : ChangeSpec := { name := "waitersCome", fn := fun _ => fun
  | [d1, d2] => { results := [.lit (.bool true)], args := [d1, d2] }
  | _ => none }
def waitersComeRow : OpenClaim := { program := "ytnbifmfocdejpaa", sum := "d09c9e6d84756dc9b6c05eb454a40f3073037c3e8971e44f2bc5bcb14dff7e1b", func := "quarterdeck/quarterdecklaw12.WaitersCome", spec := "waitersCome", unfollowed := true, recurses := true, apart := false }
def WaitersComeSaid : Prop := waitersComeRow.holds Try.pinned (OpenSpec.ofChange waitersComeSpec)

/-- ITS FALSE NEIGHBOUR: 'it returns false'. Refute it at one input. -/
def waitersComeWrong : ChangeSpec := { name := "waitersCome", fn := fun _ => fun
  | [d1, d2] => { results := [.lit (.bool false)], args := [d1, d2] }
  | _ => none }
def WaitersComeWrongFalsely : Prop := waitersComeRow.holds Try.pinned (OpenSpec.ofChange waitersComeWrong)

/-- 'quarterdecklaw12.WaitersDrain': WHATEVER THE INPUT: true; the input reads as it did. -/
def waitersDrainSpec : ChangeSpec := { name := "waitersDrain", fn := fun _ => fun
  | [d] => { results := [.lit (.bool true)], args := [d] }
  | _ => none }
def waitersDrainRow : OpenClaim := { program := "ytnbifmfocdejpaa", sum := "d09c9e6d84756dc9b6c05eb454a40f3073037c3e8971e44f2bc5bcb14dff7e1b", func := "quarterdeck/quarterdecklaw12.WaitersDrain", spec := "waitersDrain", unfollowed := true, recurses := true, apart := false }
def WaitersDrainSaid : Prop := waitersDrainRow.holds Try.pinned (OpenSpec.ofChange waitersDrainSpec)

/-- ITS FALSE NEIGHBOUR: 'it returns false'. Refute it at one input. -/
def waitersDrainWrong : ChangeSpec := { name := "waitersDrain", fn := fun _ => fun
  | [d] => { results := [.lit (.bool false)], args := [d] }
  | _ => none }
def WaitersDrainWrongFalsely : Prop := waitersDrainRow.holds Try.pinned (OpenSpec.ofChange waitersDrainWrong)

/-- 'quarterdecklaw12.WaitersOwn': WHATEVER THE INPUT: true; the input reads as it did. -/
def waitersOwnSpec : ChangeSpec := { name := "waitersOwn", fn := fun _ => fun
  | [d1, d2, d3, d4] => { results := [.lit (.bool true)], args := [d1, d2, d3, d4] }
  | _ => none }
def waitersOwnRow : OpenClaim := { program := "ytnbifmfocdejpaa", sum := "d09c9e6d84756dc9b6c05eb454a40f3073037c3e8971e44f2bc5bcb14dff7e1b", func := "quarterdeck/quarterdecklaw12.WaitersOwn", spec := "waitersOwn", unfollowed := true, recurses := true, apart := false }
def WaitersOwnSaid : Prop := waitersOwnRow.holds Try.pinned (OpenSpec.ofChange waitersOwnSpec)

/-- ITS FALSE NEIGHBOUR: 'it returns false'. Refute it at one input. -/
def waitersOwnWrong : ChangeSpec := { name := "waitersOwn", fn := fun _ => fun
  | [d1, d2, d3, d4] => { results := [.lit (.bool false)], args := [d1, d2, d3, d4] }
  | _ => none }
def WaitersOwnWrongFalsely : Prop := waitersOwnRow.holds Try.pinned (OpenSpec.ofChange waitersOwnWrong)

/- THE SECOND FORM. 'bulk': how many values and letters a reading holds, each counted each time it is reached (what is shared counts as often as it is met; a slice's spare places count too). A statement '..UptoSaid' is the law's where the arguments, and the package variables that the reading takes, are together of bulk at most 1048576: NARROWER than '..Said'. Prove '..Said' where nothing that the law and all that it calls make is longer than what came in: it says more and counts as full. Else prove '..UptoSaid'. A law counts once. -/
mutual
def uptoBulk {H : Type} : DataW H → Nat
  | .lit (.string bytes) => bytes.length + 1
  | .lit _ => 1
  | .nil => 1
  | .ptr d => uptoBulk d + 1
  | .slice elems spare => uptoBulkAll elems + uptoBulkAll spare + 1
  | .agg parts => uptoBulkAll parts + 1
  | .iface _ d => uptoBulk d + 1
  | .map entries => uptoBulkEntries entries + 1
  | .held _ => 1
def uptoBulkAll {H : Type} : List (DataW H) → Nat
  | [] => 0
  | d :: r => uptoBulk d + uptoBulkAll r
def uptoBulkEntries {H : Type} : List (Lit × DataW H) → Nat
  | [] => 0
  | x :: r => uptoBulkEntry x + uptoBulkEntries r
def uptoBulkEntry {H : Type} : Lit × DataW H → Nat
  | (.string bytes, d) => bytes.length + uptoBulk d + 1
  | (_, d) => uptoBulk d + 1
 end
def uptoSmall : (H : Type) → List (DataW H) → Bool := fun _ ds => decide (uptoBulkAll ds ≤ 1048576)
def OpenSpec.upto (s : _root_.Go.ChangeSpec) : _root_.Go.OpenSpec := { _root_.Go.OpenSpec.ofChange s with cond := some uptoSmall }

/-- 'quarterdecklaw12.WaitersDo', WHERE WHAT IT READS IS OF BULK AT MOST 1048576: true; the input reads as it did. -/
def waitersDoUptoRow : OpenClaim := { program := "ytnbifmfocdejpaa", sum := "d09c9e6d84756dc9b6c05eb454a40f3073037c3e8971e44f2bc5bcb14dff7e1b", func := "quarterdeck/quarterdecklaw12.WaitersDo", spec := "waitersDo", unfollowed := true, recurses := true, apart := false, narrowed := true }
def WaitersDoUptoSaid : Prop := waitersDoUptoRow.holds Try.pinned (OpenSpec.upto waitersDoSpec)

/-- 'quarterdecklaw12.WaitersRank', WHERE WHAT IT READS IS OF BULK AT MOST 1048576: true; the input reads as it did. -/
def waitersRankUptoRow : OpenClaim := { program := "ytnbifmfocdejpaa", sum := "d09c9e6d84756dc9b6c05eb454a40f3073037c3e8971e44f2bc5bcb14dff7e1b", func := "quarterdeck/quarterdecklaw12.WaitersRank", spec := "waitersRank", unfollowed := true, recurses := true, apart := false, narrowed := true }
def WaitersRankUptoSaid : Prop := waitersRankUptoRow.holds Try.pinned (OpenSpec.upto waitersRankSpec)

/-- 'quarterdecklaw12.WaitersCome', WHERE WHAT IT READS IS OF BULK AT MOST 1048576: true; the input reads as it did. -/
def waitersComeUptoRow : OpenClaim := { program := "ytnbifmfocdejpaa", sum := "d09c9e6d84756dc9b6c05eb454a40f3073037c3e8971e44f2bc5bcb14dff7e1b", func := "quarterdeck/quarterdecklaw12.WaitersCome", spec := "waitersCome", unfollowed := true, recurses := true, apart := false, narrowed := true }
def WaitersComeUptoSaid : Prop := waitersComeUptoRow.holds Try.pinned (OpenSpec.upto waitersComeSpec)

/-- 'quarterdecklaw12.WaitersDrain', WHERE WHAT IT READS IS OF BULK AT MOST 1048576: true; the input reads as it did. -/
def waitersDrainUptoRow : OpenClaim := { program := "ytnbifmfocdejpaa", sum := "d09c9e6d84756dc9b6c05eb454a40f3073037c3e8971e44f2bc5bcb14dff7e1b", func := "quarterdeck/quarterdecklaw12.WaitersDrain", spec := "waitersDrain", unfollowed := true, recurses := true, apart := false, narrowed := true }
def WaitersDrainUptoSaid : Prop := waitersDrainUptoRow.holds Try.pinned (OpenSpec.upto waitersDrainSpec)

/-- 'quarterdecklaw12.WaitersOwn', WHERE WHAT IT READS IS OF BULK AT MOST 1048576: true; the input reads as it did. -/
def waitersOwnUptoRow : OpenClaim := { program := "ytnbifmfocdejpaa", sum := "d09c9e6d84756dc9b6c05eb454a40f3073037c3e8971e44f2bc5bcb14dff7e1b", func := "quarterdeck/quarterdecklaw12.WaitersOwn", spec := "waitersOwn", unfollowed := true, recurses := true, apart := false, narrowed := true }
def WaitersOwnUptoSaid : Prop := waitersOwnUptoRow.holds Try.pinned (OpenSpec.upto waitersOwnSpec)

end Rows
end Go.Proofs.Ytnbifmfocdejpaa
