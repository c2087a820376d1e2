/-
  No cell of these rows narrows 'for every input' (looked for: loops, veiled, ifaces, maps, wideKeys, modest, calm, conditions, laid).
  DERIVED. THE GIVEN ROWS OF THIS SEAT. 6 by the template 'for every input the law returns true; each argument reads behind the call as it read before'; 0 by the template 'total and deterministic' (their statements: YtdanfnbclbiidaaTotals.lean).
  GIVEN WITH THE SEED: the statements are not yours to turn. If you find one false, say at which input.
  Laid BY PROGRAM, IN A SANDBOX (cutbox-rows.mjs): the forced cells as the released guide's own fill.sh prints them over the translation 2f0bcc93f15129f0… (all of the seat's roots in one cut). By AI agents, Wed Nov 11 2026. No macro, syntax, notation, axiom, sorry.
-/
import Derived.Test.YtdanfnbclbiidaaChecked
import GoSem.Claim
import GoSem.ClaimJoined
import GoSem.ClaimMapViews
import Derived.JoinedTies
import Derived.KernelRfl
namespace Go.Proofs.Ytdanfnbclbiidaa
/- THE CELL 'sum', in the pinned program and in every row, IS THE sha256 OF THE DUMP (.gsa) THAT YtdanfnbclbiidaaProg.lean LOADS. Nothing in Lean hashes anything: it is a label: what it is worth is what the hold of that sum in a sandbox is worth. -/
noncomputable def Try.pinned : Pinned := { name := "ytdanfnbclbiidaa", sum := "2f0bcc93f15129f01af05986baf069cfb97ce892a28607ff53fed87d40d70a0d", checked := Try.checked }
namespace Rows
def none {H : Type} : Left H := { results := [], args := [] }

/-- 'quarterdecklaw11.TimesWake': WHATEVER THE INPUT: true; the input reads as it did. -/
def timesWakeSpec : ChangeSpec := { name := "timesWake", fn := fun _ => fun
  | [d1, d2, d3] => { results := [.lit (.bool true)], args := [d1, d2, d3] }
  | _ => none }
def timesWakeRow : OpenClaim := { program := "ytdanfnbclbiidaa", sum := "2f0bcc93f15129f01af05986baf069cfb97ce892a28607ff53fed87d40d70a0d", func := "quarterdeck/quarterdecklaw11.TimesWake", spec := "timesWake", unfollowed := true, recurses := true, apart := false }
def TimesWakeSaid : Prop := timesWakeRow.holds Try.pinned (OpenSpec.ofChange timesWakeSpec)

/-- ITS FALSE NEIGHBOUR: 'it returns false'. Refute it at one input. -/
def timesWakeWrong : ChangeSpec := { name := "timesWake", fn := fun _ => fun
  | [d1, d2, d3] => { results := [.lit (.bool false)], args := [d1, d2, d3] }
  | _ => none }
def TimesWakeWrongFalsely : Prop := timesWakeRow.holds Try.pinned (OpenSpec.ofChange timesWakeWrong)

/-- 'quarterdecklaw11.TimesAsk': WHATEVER THE INPUT: true; the input reads as it did. -/
def timesAskSpec : ChangeSpec := { name := "timesAsk", fn := fun _ => fun
  | [d1, d2, d3, d4, d5] => { results := [.lit (.bool true)], args := [d1, d2, d3, d4, d5] }
  | _ => none }
def timesAskRow : OpenClaim := { program := "ytdanfnbclbiidaa", sum := "2f0bcc93f15129f01af05986baf069cfb97ce892a28607ff53fed87d40d70a0d", func := "quarterdeck/quarterdecklaw11.TimesAsk", spec := "timesAsk", unfollowed := true, recurses := true, apart := false }
def TimesAskSaid : Prop := timesAskRow.holds Try.pinned (OpenSpec.ofChange timesAskSpec)

/-- ITS FALSE NEIGHBOUR: 'it returns false'. Refute it at one input. -/
def timesAskWrong : ChangeSpec := { name := "timesAsk", fn := fun _ => fun
  | [d1, d2, d3, d4, d5] => { results := [.lit (.bool false)], args := [d1, d2, d3, d4, d5] }
  | _ => none }
def TimesAskWrongFalsely : Prop := timesAskRow.holds Try.pinned (OpenSpec.ofChange timesAskWrong)

/-- 'quarterdecklaw11.TimesOnce': WHATEVER THE INPUT: true; the input reads as it did. -/
def timesOnceSpec : ChangeSpec := { name := "timesOnce", fn := fun _ => fun
  | [d1, d2, d3] => { results := [.lit (.bool true)], args := [d1, d2, d3] }
  | _ => none }
def timesOnceRow : OpenClaim := { program := "ytdanfnbclbiidaa", sum := "2f0bcc93f15129f01af05986baf069cfb97ce892a28607ff53fed87d40d70a0d", func := "quarterdeck/quarterdecklaw11.TimesOnce", spec := "timesOnce", unfollowed := true, recurses := true, apart := false }
def TimesOnceSaid : Prop := timesOnceRow.holds Try.pinned (OpenSpec.ofChange timesOnceSpec)

/-- ITS FALSE NEIGHBOUR: 'it returns false'. Refute it at one input. -/
def timesOnceWrong : ChangeSpec := { name := "timesOnce", fn := fun _ => fun
  | [d1, d2, d3] => { results := [.lit (.bool false)], args := [d1, d2, d3] }
  | _ => none }
def TimesOnceWrongFalsely : Prop := timesOnceRow.holds Try.pinned (OpenSpec.ofChange timesOnceWrong)

/-- 'quarterdecklaw11.TimesPeriods': WHATEVER THE INPUT: true; the input reads as it did. -/
def timesPeriodsSpec : ChangeSpec := { name := "timesPeriods", fn := fun _ => fun
  | [d1, d2, d3, d4] => { results := [.lit (.bool true)], args := [d1, d2, d3, d4] }
  | _ => none }
def timesPeriodsRow : OpenClaim := { program := "ytdanfnbclbiidaa", sum := "2f0bcc93f15129f01af05986baf069cfb97ce892a28607ff53fed87d40d70a0d", func := "quarterdeck/quarterdecklaw11.TimesPeriods", spec := "timesPeriods", unfollowed := true, recurses := true, apart := false }
def TimesPeriodsSaid : Prop := timesPeriodsRow.holds Try.pinned (OpenSpec.ofChange timesPeriodsSpec)

/-- ITS FALSE NEIGHBOUR: 'it returns false'. Refute it at one input. -/
def timesPeriodsWrong : ChangeSpec := { name := "timesPeriods", fn := fun _ => fun
  | [d1, d2, d3, d4] => { results := [.lit (.bool false)], args := [d1, d2, d3, d4] }
  | _ => none }
def TimesPeriodsWrongFalsely : Prop := timesPeriodsRow.holds Try.pinned (OpenSpec.ofChange timesPeriodsWrong)

/-- 'quarterdecklaw11.TimesDelays': WHATEVER THE INPUT: true; the input reads as it did. -/
def timesDelaysSpec : ChangeSpec := { name := "timesDelays", fn := fun _ => fun
  | [d1, d2, d3, d4, d5] => { results := [.lit (.bool true)], args := [d1, d2, d3, d4, d5] }
  | _ => none }
def timesDelaysRow : OpenClaim := { program := "ytdanfnbclbiidaa", sum := "2f0bcc93f15129f01af05986baf069cfb97ce892a28607ff53fed87d40d70a0d", func := "quarterdeck/quarterdecklaw11.TimesDelays", spec := "timesDelays", unfollowed := true, recurses := true, apart := false }
def TimesDelaysSaid : Prop := timesDelaysRow.holds Try.pinned (OpenSpec.ofChange timesDelaysSpec)

/-- ITS FALSE NEIGHBOUR: 'it returns false'. Refute it at one input. -/
def timesDelaysWrong : ChangeSpec := { name := "timesDelays", fn := fun _ => fun
  | [d1, d2, d3, d4, d5] => { results := [.lit (.bool false)], args := [d1, d2, d3, d4, d5] }
  | _ => none }
def TimesDelaysWrongFalsely : Prop := timesDelaysRow.holds Try.pinned (OpenSpec.ofChange timesDelaysWrong)

/-- 'quarterdecklaw11.TimesReplenished': WHATEVER THE INPUT: true; the input reads as it did. -/
def timesReplenishedSpec : ChangeSpec := { name := "timesReplenished", fn := fun _ => fun
  | [d1, d2, d3, d4, d5] => { results := [.lit (.bool true)], args := [d1, d2, d3, d4, d5] }
  | _ => none }
def timesReplenishedRow : OpenClaim := { program := "ytdanfnbclbiidaa", sum := "2f0bcc93f15129f01af05986baf069cfb97ce892a28607ff53fed87d40d70a0d", func := "quarterdeck/quarterdecklaw11.TimesReplenished", spec := "timesReplenished", unfollowed := true, recurses := true, apart := false }
def TimesReplenishedSaid : Prop := timesReplenishedRow.holds Try.pinned (OpenSpec.ofChange timesReplenishedSpec)

/-- ITS FALSE NEIGHBOUR: 'it returns false'. Refute it at one input. -/
def timesReplenishedWrong : ChangeSpec := { name := "timesReplenished", fn := fun _ => fun
  | [d1, d2, d3, d4, d5] => { results := [.lit (.bool false)], args := [d1, d2, d3, d4, d5] }
  | _ => none }
def TimesReplenishedWrongFalsely : Prop := timesReplenishedRow.holds Try.pinned (OpenSpec.ofChange timesReplenishedWrong)

/- THE SECOND FORM. 'bulk': how many values and letters a reading holds, each counted each time it is reached (what is shared counts as often as it is met; a slice's spare places count too). A statement '..UptoSaid' is the law's where the arguments, and the package variables that the reading takes, are together of bulk at most 1048576: NARROWER than '..Said'. Prove '..Said' where nothing that the law and all that it calls make is longer than what came in: it says more and counts as full. Else prove '..UptoSaid'. A law counts once. -/
mutual
def uptoBulk {H : Type} : DataW H → Nat
  | .lit (.string bytes) => bytes.length + 1
  | .lit _ => 1
  | .nil => 1
  | .ptr d => uptoBulk d + 1
  | .slice elems spare => uptoBulkAll elems + uptoBulkAll spare + 1
  | .agg parts => uptoBulkAll parts + 1
  | .iface _ d => uptoBulk d + 1
  | .map entries => uptoBulkEntries entries + 1
  | .held _ => 1
def uptoBulkAll {H : Type} : List (DataW H) → Nat
  | [] => 0
  | d :: r => uptoBulk d + uptoBulkAll r
def uptoBulkEntries {H : Type} : List (Lit × DataW H) → Nat
  | [] => 0
  | x :: r => uptoBulkEntry x + uptoBulkEntries r
def uptoBulkEntry {H : Type} : Lit × DataW H → Nat
  | (.string bytes, d) => bytes.length + uptoBulk d + 1
  | (_, d) => uptoBulk d + 1
 end
def uptoSmall : (H : Type) → List (DataW H) → Bool := fun _ ds => decide (uptoBulkAll ds ≤ 1048576)
def OpenSpec.upto (s : _root_.Go.ChangeSpec) : _root_.Go.OpenSpec := { _root_.Go.OpenSpec.ofChange s with cond := some uptoSmall }

/-- 'quarterdecklaw11.TimesWake', WHERE WHAT IT READS IS OF BULK AT MOST 1048576: true; the input reads as it did. -/
def timesWakeUptoRow : OpenClaim := { program := "ytdanfnbclbiidaa", sum := "2f0bcc93f15129f01af05986baf069cfb97ce892a28607ff53fed87d40d70a0d", func := "quarterdeck/quarterdecklaw11.TimesWake", spec := "timesWake", unfollowed := true, recurses := true, apart := false, narrowed := true }
def TimesWakeUptoSaid : Prop := timesWakeUptoRow.holds Try.pinned (OpenSpec.upto timesWakeSpec)

/-- 'quarterdecklaw11.TimesAsk', WHERE WHAT IT READS IS OF BULK AT MOST 1048576: true; the input reads as it did. -/
def timesAskUptoRow : OpenClaim := { program := "ytdanfnbclbiidaa", sum := "2f0bcc93f15129f01af05986baf069cfb97ce892a28607ff53fed87d40d70a0d", func := "quarterdeck/quarterdecklaw11.TimesAsk", spec := "timesAsk", unfollowed := true, recurses := true, apart := false, narrowed := true }
def TimesAskUptoSaid : Prop := timesAskUptoRow.holds Try.pinned (OpenSpec.upto timesAskSpec)

/-- 'quarterdecklaw11.TimesOnce', WHERE WHAT IT READS IS OF BULK AT MOST 1048576: true; the input reads as it did. -/
def timesOnceUptoRow : OpenClaim := { program := "ytdanfnbclbiidaa", sum := "2f0bcc93f15129f01af05986baf069cfb97ce892a28607ff53fed87d40d70a0d", func := "quarterdeck/quarterdecklaw11.TimesOnce", spec := "timesOnce", unfollowed := true, recurses := true, apart := false, narrowed := true }
def TimesOnceUptoSaid : Prop := timesOnceUptoRow.holds Try.pinned (OpenSpec.upto timesOnceSpec)

/-- 'quarterdecklaw11.TimesPeriods', WHERE WHAT IT READS IS OF BULK AT MOST 1048576: true; the input reads as it did. -/
def timesPeriodsUptoRow : OpenClaim := { program := "ytdanfnbclbiidaa", sum := "2f0bcc93f15129f01af05986baf069cfb97ce892a28607ff53fed87d40d70a0d", func := "quarterdeck/quarterdecklaw11.TimesPeriods", spec := "timesPeriods", unfollowed := true, recurses := true, apart := false, narrowed := true }
def TimesPeriodsUptoSaid : Prop := timesPeriodsUptoRow.holds Try.pinned (OpenSpec.upto timesPeriodsSpec)

/-- 'quarterdecklaw11.TimesDelays', WHERE WHAT IT READS IS OF BULK AT MOST 1048576: true; the input reads as it did. -/
def timesDelaysUptoRow : OpenClaim := { program := "ytdanfnbclbiidaa", sum := "2f0bcc93f15129f01af05986baf069cfb97ce892a28607ff53fed87d40d70a0d", func := "quarterdeck/quarterdecklaw11.TimesDelays", spec := "timesDelays", unfollowed := true, recurses := true, apart := false, narrowed := true }
def TimesDelaysUptoSaid : Prop := timesDelaysUptoRow.holds Try.pinned (OpenSpec.upto timesDelaysSpec)

/-- 'quarterdecklaw11.TimesReplenished', WHERE WHAT IT READS IS OF BULK AT MOST 1048576: true; the input reads as it did. -/
def timesReplenishedUptoRow : OpenClaim := { program := "ytdanfnbclbiidaa", sum := "2f0bcc93f15129f01af05986baf069cfb97ce892a28607ff53fed87d40d70a0d", func := "quarterdeck/quarterdecklaw11.TimesReplenished", spec := "timesReplenished", unfollowed := true, recurses := true, apart := false, narrowed := true }
def TimesReplenishedUptoSaid : Prop := timesReplenishedUptoRow.holds Try.pinned (OpenSpec.upto timesReplenishedSpec)

end Rows
end Go.Proofs.Ytdanfnbclbiidaa
