/-
  No cell of these rows narrows 'for every input' (looked for: loops, veiled, ifaces, maps, wideKeys, modest, calm, conditions, laid).
  DERIVED. THE GIVEN ROWS OF THIS SEAT. 5 by the template 'for every input the law returns true; each argument reads behind the call as it read before'; 0 by the template 'total and deterministic' (their statements: YtgnjnhfimagbpaaTotals.lean).
  GIVEN WITH THE SEED: the statements are not yours to turn. If you find one false, say at which input.
  Laid BY PROGRAM, IN A SANDBOX (cutbox-rows.mjs): the forced cells as the released guide's own fill.sh prints them over the translation e2d23944f8f74b74… (all of the seat's roots in one cut). By AI agents, Wed Nov 11 2026. No macro, syntax, notation, axiom, sorry.
-/
import Derived.Test.YtgnjnhfimagbpaaChecked
import GoSem.Claim
import GoSem.ClaimJoined
import GoSem.ClaimMapViews
import Derived.JoinedTies
import Derived.KernelRfl
namespace Go.Proofs.Ytgnjnhfimagbpaa
/- THE CELL 'sum', in the pinned program and in every row, IS THE sha256 OF THE DUMP (.gsa) THAT YtgnjnhfimagbpaaProg.lean LOADS. Nothing in Lean hashes anything: it is a label: what it is worth is what the hold of that sum in a sandbox is worth. -/
noncomputable def Try.pinned : Pinned := { name := "ytgnjnhfimagbpaa", sum := "e2d23944f8f74b74decdd176fb2cf0b9c95dbf8ccc19e4c751f2230d71194614", checked := Try.checked }
namespace Rows
def none {H : Type} : Left H := { results := [], args := [] }

/-- 'quarterdecklaw16.EventDoes': WHATEVER THE INPUT: true; the input reads as it did. -/
def eventDoesSpec : ChangeSpec := { name := "eventDoes", fn := fun _ => fun
  | [d1, d2, d3] => { results := [.lit (.bool true)], args := [d1, d2, d3] }
  | _ => none }
def eventDoesRow : OpenClaim := { program := "ytgnjnhfimagbpaa", sum := "e2d23944f8f74b74decdd176fb2cf0b9c95dbf8ccc19e4c751f2230d71194614", func := "quarterdeck/quarterdecklaw16.EventDoes", spec := "eventDoes", unfollowed := true, recurses := true, apart := false }
def EventDoesSaid : Prop := eventDoesRow.holds Try.pinned (OpenSpec.ofChange eventDoesSpec)

/-- ITS FALSE NEIGHBOUR: 'it returns false'. Refute it at one input. -/
def eventDoesWrong : ChangeSpec := { name := "eventDoes", fn := fun _ => fun
  | [d1, d2, d3] => { results := [.lit (.bool false)], args := [d1, d2, d3] }
  | _ => none }
def EventDoesWrongFalsely : Prop := eventDoesRow.holds Try.pinned (OpenSpec.ofChange eventDoesWrong)

/-- 'quarterdecklaw16.EventGoes': WHATEVER THE INPUT: true; the input reads as it did. -/
def eventGoesSpec : ChangeSpec := { name := "eventGoes", fn := fun _ => fun
  | [d] => { results := [.lit (.bool true)], args := [d] }
  | _ => none }
def eventGoesRow : OpenClaim := { program := "ytgnjnhfimagbpaa", sum := "e2d23944f8f74b74decdd176fb2cf0b9c95dbf8ccc19e4c751f2230d71194614", func := "quarterdeck/quarterdecklaw16.EventGoes", spec := "eventGoes", unfollowed := true, recurses := true, apart := false }
def EventGoesSaid : Prop := eventGoesRow.holds Try.pinned (OpenSpec.ofChange eventGoesSpec)

/-- ITS FALSE NEIGHBOUR: 'it returns false'. Refute it at one input. -/
def eventGoesWrong : ChangeSpec := { name := "eventGoes", fn := fun _ => fun
  | [d] => { results := [.lit (.bool false)], args := [d] }
  | _ => none }
def EventGoesWrongFalsely : Prop := eventGoesRow.holds Try.pinned (OpenSpec.ofChange eventGoesWrong)

/-- 'quarterdecklaw16.EventTwice': WHATEVER THE INPUT: true; the input reads as it did. -/
def eventTwiceSpec : ChangeSpec := { name := "eventTwice", fn := fun _ => fun
  | [d] => { results := [.lit (.bool true)], args := [d] }
  | _ => none }
def eventTwiceRow : OpenClaim := { program := "ytgnjnhfimagbpaa", sum := "e2d23944f8f74b74decdd176fb2cf0b9c95dbf8ccc19e4c751f2230d71194614", func := "quarterdeck/quarterdecklaw16.EventTwice", spec := "eventTwice", unfollowed := true, recurses := true, apart := false }
def EventTwiceSaid : Prop := eventTwiceRow.holds Try.pinned (OpenSpec.ofChange eventTwiceSpec)

/-- ITS FALSE NEIGHBOUR: 'it returns false'. Refute it at one input. -/
def eventTwiceWrong : ChangeSpec := { name := "eventTwice", fn := fun _ => fun
  | [d] => { results := [.lit (.bool false)], args := [d] }
  | _ => none }
def EventTwiceWrongFalsely : Prop := eventTwiceRow.holds Try.pinned (OpenSpec.ofChange eventTwiceWrong)

/-- 'quarterdecklaw16.EventWaits': WHATEVER THE INPUT: true; the input reads as it did. -/
def eventWaitsSpec : ChangeSpec := { name := "eventWaits", fn := fun _ => fun
  | [d1, d2] => { results := [.lit (.bool true)], args := [d1, d2] }
  | _ => none }
def eventWaitsRow : OpenClaim := { program := "ytgnjnhfimagbpaa", sum := "e2d23944f8f74b74decdd176fb2cf0b9c95dbf8ccc19e4c751f2230d71194614", func := "quarterdeck/quarterdecklaw16.EventWaits", spec := "eventWaits", unfollowed := true, recurses := true, apart := false }
def EventWaitsSaid : Prop := eventWaitsRow.holds Try.pinned (OpenSpec.ofChange eventWaitsSpec)

/-- ITS FALSE NEIGHBOUR: 'it returns false'. Refute it at one input. -/
def eventWaitsWrong : ChangeSpec := { name := "eventWaits", fn := fun _ => fun
  | [d1, d2] => { results := [.lit (.bool false)], args := [d1, d2] }
  | _ => none }
def EventWaitsWrongFalsely : Prop := eventWaitsRow.holds Try.pinned (OpenSpec.ofChange eventWaitsWrong)

/-- 'quarterdecklaw16.EventOwn': WHATEVER THE INPUT: true; the input reads as it did. -/
def eventOwnSpec : ChangeSpec := { name := "eventOwn", fn := fun _ => fun
  | [d1, d2] => { results := [.lit (.bool true)], args := [d1, d2] }
  | _ => none }
def eventOwnRow : OpenClaim := { program := "ytgnjnhfimagbpaa", sum := "e2d23944f8f74b74decdd176fb2cf0b9c95dbf8ccc19e4c751f2230d71194614", func := "quarterdeck/quarterdecklaw16.EventOwn", spec := "eventOwn", unfollowed := true, recurses := true, apart := false }
def EventOwnSaid : Prop := eventOwnRow.holds Try.pinned (OpenSpec.ofChange eventOwnSpec)

/-- ITS FALSE NEIGHBOUR: 'it returns false'. Refute it at one input. -/
def eventOwnWrong : ChangeSpec := { name := "eventOwn", fn := fun _ => fun
  | [d1, d2] => { results := [.lit (.bool false)], args := [d1, d2] }
  | _ => none }
def EventOwnWrongFalsely : Prop := eventOwnRow.holds Try.pinned (OpenSpec.ofChange eventOwnWrong)

/- THE SECOND FORM. 'bulk': how many values and letters a reading holds, each counted each time it is reached (what is shared counts as often as it is met; a slice's spare places count too). A statement '..UptoSaid' is the law's where the arguments, and the package variables that the reading takes, are together of bulk at most 1048576: NARROWER than '..Said'. Prove '..Said' where nothing that the law and all that it calls make is longer than what came in: it says more and counts as full. Else prove '..UptoSaid'. A law counts once. -/
mutual
def uptoBulk {H : Type} : DataW H → Nat
  | .lit (.string bytes) => bytes.length + 1
  | .lit _ => 1
  | .nil => 1
  | .ptr d => uptoBulk d + 1
  | .slice elems spare => uptoBulkAll elems + uptoBulkAll spare + 1
  | .agg parts => uptoBulkAll parts + 1
  | .iface _ d => uptoBulk d + 1
  | .map entries => uptoBulkEntries entries + 1
  | .held _ => 1
def uptoBulkAll {H : Type} : List (DataW H) → Nat
  | [] => 0
  | d :: r => uptoBulk d + uptoBulkAll r
def uptoBulkEntries {H : Type} : List (Lit × DataW H) → Nat
  | [] => 0
  | x :: r => uptoBulkEntry x + uptoBulkEntries r
def uptoBulkEntry {H : Type} : Lit × DataW H → Nat
  | (.string bytes, d) => bytes.length + uptoBulk d + 1
  | (_, d) => uptoBulk d + 1
 end
def uptoSmall : (H : Type) → List (DataW H) → Bool := fun _ ds => decide (uptoBulkAll ds ≤ 1048576)
def OpenSpec.upto (s : _root_.Go.ChangeSpec) : _root_.Go.OpenSpec := { _root_.Go.OpenSpec.ofChange s with cond := some uptoSmall }

/-- 'quarterdecklaw16.EventDoes', WHERE WHAT IT READS IS OF BULK AT MOST 1048576: true; the input reads as it did. -/
def eventDoesUptoRow : OpenClaim := { program := "ytgnjnhfimagbpaa", sum := "e2d23944f8f74b74decdd176fb2cf0b9c95dbf8ccc19e4c751f2230d71194614", func := "quarterdeck/quarterdecklaw16.EventDoes", spec := "eventDoes", unfollowed := true, recurses := true, apart := false, narrowed := true }
def EventDoesUptoSaid : Prop := eventDoesUptoRow.holds Try.pinned (OpenSpec.upto eventDoesSpec)

/-- 'quarterdecklaw16.EventGoes', WHERE WHAT IT READS IS OF BULK AT MOST 1048576: true; the input reads as it did. -/
def eventGoesUptoRow : OpenClaim := { program := "ytgnjnhfimagbpaa", sum := "e2d23944f8f74b74decdd176fb2cf0b9c95dbf8ccc19e4c751f2230d71194614", func := "quarterdeck/quarterdecklaw16.EventGoes", spec := "eventGoes", unfollowed := true, recurses := true, apart := false, narrowed := true }
def EventGoesUptoSaid : Prop := eventGoesUptoRow.holds Try.pinned (OpenSpec.upto eventGoesSpec)

/-- 'quarterdecklaw16.EventTwice', WHERE WHAT IT READS IS OF BULK AT MOST 1048576: true; the input reads as it did. -/
def eventTwiceUptoRow : OpenClaim := { program := "ytgnjnhfimagbpaa", sum := "e2d23944f8f74b74decdd176fb2cf0b9c95dbf8ccc19e4c751f2230d71194614", func := "quarterdeck/quarterdecklaw16.EventTwice", spec := "eventTwice", unfollowed := true, recurses := true, apart := false, narrowed := true }
def EventTwiceUptoSaid : Prop := eventTwiceUptoRow.holds Try.pinned (OpenSpec.upto eventTwiceSpec)

/-- 'quarterdecklaw16.EventWaits', WHERE WHAT IT READS IS OF BULK AT MOST 1048576: true; the input reads as it did. -/
def eventWaitsUptoRow : OpenClaim := { program := "ytgnjnhfimagbpaa", sum := "e2d23944f8f74b74decdd176fb2cf0b9c95dbf8ccc19e4c751f2230d71194614", func := "quarterdeck/quarterdecklaw16.EventWaits", spec := "eventWaits", unfollowed := true, recurses := true, apart := false, narrowed := true }
def EventWaitsUptoSaid : Prop := eventWaitsUptoRow.holds Try.pinned (OpenSpec.upto eventWaitsSpec)

/-- 'quarterdecklaw16.EventOwn', WHERE WHAT IT READS IS OF BULK AT MOST 1048576: true; the input reads as it did. -/
def eventOwnUptoRow : OpenClaim := { program := "ytgnjnhfimagbpaa", sum := "e2d23944f8f74b74decdd176fb2cf0b9c95dbf8ccc19e4c751f2230d71194614", func := "quarterdeck/quarterdecklaw16.EventOwn", spec := "eventOwn", unfollowed := true, recurses := true, apart := false, narrowed := true }
def EventOwnUptoSaid : Prop := eventOwnUptoRow.holds Try.pinned (OpenSpec.upto eventOwnSpec)

end Rows
end Go.Proofs.Ytgnjnhfimagbpaa
