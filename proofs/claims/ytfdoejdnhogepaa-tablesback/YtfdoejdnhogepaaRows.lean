/-
  No cell of these rows narrows 'for every input' (looked for: loops, veiled, ifaces, maps, wideKeys, modest, calm, conditions, laid).
  DERIVED. THE GIVEN ROWS OF THIS SEAT. 12 by the template 'for every input the law returns true; each argument reads behind the call as it read before'; 0 by the template 'total and deterministic' (their statements: YtfdoejdnhogepaaTotals.lean).
  GIVEN WITH THE SEED: the statements are not yours to turn. If you find one false, say at which input.
  Laid BY PROGRAM, IN A SANDBOX (cutbox-rows.mjs): the forced cells as the released guide's own fill.sh prints them over the translation 1f49e39b264086e5… (all of the seat's roots in one cut). By AI agents, Wed Nov 11 2026. No macro, syntax, notation, axiom, sorry.
-/
import Derived.Test.YtfdoejdnhogepaaChecked
import GoSem.Claim
import GoSem.ClaimJoined
import GoSem.ClaimMapViews
import Derived.JoinedTies
import Derived.KernelRfl
namespace Go.Proofs.Ytfdoejdnhogepaa
/- THE CELL 'sum', in the pinned program and in every row, IS THE sha256 OF THE DUMP (.gsa) THAT YtfdoejdnhogepaaProg.lean LOADS. Nothing in Lean hashes anything: it is a label: what it is worth is what the hold of that sum in a sandbox is worth. -/
noncomputable def Try.pinned : Pinned := { name := "ytfdoejdnhogepaa", sum := "1f49e39b264086e52213795704bc02a60a72ac340308efbad102c03dcac4bc4a", checked := Try.checked }
namespace Rows
def none {H : Type} : Left H := { results := [], args := [] }

/-- 'quarterdecklaw07.TablesEncode': WHATEVER THE INPUT: true; the input reads as it did. -/
def tablesEncodeSpec : ChangeSpec := { name := "tablesEncode", fn := fun _ => fun
  | [d] => { results := [.lit (.bool true)], args := [d] }
  | _ => none }
def tablesEncodeRow : OpenClaim := { program := "ytfdoejdnhogepaa", sum := "1f49e39b264086e52213795704bc02a60a72ac340308efbad102c03dcac4bc4a", func := "quarterdeck/quarterdecklaw07.TablesEncode", spec := "tablesEncode", unfollowed := true, recurses := true, apart := false }
def TablesEncodeSaid : Prop := tablesEncodeRow.holds Try.pinned (OpenSpec.ofChange tablesEncodeSpec)

/-- ITS FALSE NEIGHBOUR: 'it returns false'. Refute it at one input. -/
def tablesEncodeWrong : ChangeSpec := { name := "tablesEncode", fn := fun _ => fun
  | [d] => { results := [.lit (.bool false)], args := [d] }
  | _ => none }
def TablesEncodeWrongFalsely : Prop := tablesEncodeRow.holds Try.pinned (OpenSpec.ofChange tablesEncodeWrong)

/-- 'quarterdecklaw07.TablesBack': WHATEVER THE INPUT: true; the input reads as it did. -/
def tablesBackSpec : ChangeSpec := { name := "tablesBack", fn := fun _ => fun
  | [d] => { results := [.lit (.bool true)], args := [d] }
  | _ => none }
def tablesBackRow : OpenClaim := { program := "ytfdoejdnhogepaa", sum := "1f49e39b264086e52213795704bc02a60a72ac340308efbad102c03dcac4bc4a", func := "quarterdeck/quarterdecklaw07.TablesBack", spec := "tablesBack", unfollowed := true, recurses := true, apart := false }
def TablesBackSaid : Prop := tablesBackRow.holds Try.pinned (OpenSpec.ofChange tablesBackSpec)

/-- ITS FALSE NEIGHBOUR: 'it returns false'. Refute it at one input. -/
def tablesBackWrong : ChangeSpec := { name := "tablesBack", fn := fun _ => fun
  | [d] => { results := [.lit (.bool false)], args := [d] }
  | _ => none }
def TablesBackWrongFalsely : Prop := tablesBackRow.holds Try.pinned (OpenSpec.ofChange tablesBackWrong)

/-- 'quarterdecklaw07.TablesOnce': WHATEVER THE INPUT: true; the input reads as it did. -/
def tablesOnceSpec : ChangeSpec := { name := "tablesOnce", fn := fun _ => fun
  | [d] => { results := [.lit (.bool true)], args := [d] }
  | _ => none }
def tablesOnceRow : OpenClaim := { program := "ytfdoejdnhogepaa", sum := "1f49e39b264086e52213795704bc02a60a72ac340308efbad102c03dcac4bc4a", func := "quarterdeck/quarterdecklaw07.TablesOnce", spec := "tablesOnce", unfollowed := true, recurses := true, apart := false }
def TablesOnceSaid : Prop := tablesOnceRow.holds Try.pinned (OpenSpec.ofChange tablesOnceSpec)

/-- ITS FALSE NEIGHBOUR: 'it returns false'. Refute it at one input. -/
def tablesOnceWrong : ChangeSpec := { name := "tablesOnce", fn := fun _ => fun
  | [d] => { results := [.lit (.bool false)], args := [d] }
  | _ => none }
def TablesOnceWrongFalsely : Prop := tablesOnceRow.holds Try.pinned (OpenSpec.ofChange tablesOnceWrong)

/-- 'quarterdecklaw07.TablesParts': WHATEVER THE INPUT: true; the input reads as it did. -/
def tablesPartsSpec : ChangeSpec := { name := "tablesParts", fn := fun _ => fun
  | [d] => { results := [.lit (.bool true)], args := [d] }
  | _ => none }
def tablesPartsRow : OpenClaim := { program := "ytfdoejdnhogepaa", sum := "1f49e39b264086e52213795704bc02a60a72ac340308efbad102c03dcac4bc4a", func := "quarterdeck/quarterdecklaw07.TablesParts", spec := "tablesParts", unfollowed := true, recurses := true, apart := false }
def TablesPartsSaid : Prop := tablesPartsRow.holds Try.pinned (OpenSpec.ofChange tablesPartsSpec)

/-- ITS FALSE NEIGHBOUR: 'it returns false'. Refute it at one input. -/
def tablesPartsWrong : ChangeSpec := { name := "tablesParts", fn := fun _ => fun
  | [d] => { results := [.lit (.bool false)], args := [d] }
  | _ => none }
def TablesPartsWrongFalsely : Prop := tablesPartsRow.holds Try.pinned (OpenSpec.ofChange tablesPartsWrong)

/-- 'quarterdecklaw07.TablesHead': WHATEVER THE INPUT: true; the input reads as it did. -/
def tablesHeadSpec : ChangeSpec := { name := "tablesHead", fn := fun _ => fun
  | [d] => { results := [.lit (.bool true)], args := [d] }
  | _ => none }
def tablesHeadRow : OpenClaim := { program := "ytfdoejdnhogepaa", sum := "1f49e39b264086e52213795704bc02a60a72ac340308efbad102c03dcac4bc4a", func := "quarterdeck/quarterdecklaw07.TablesHead", spec := "tablesHead", unfollowed := true, recurses := true, apart := false }
def TablesHeadSaid : Prop := tablesHeadRow.holds Try.pinned (OpenSpec.ofChange tablesHeadSpec)

/-- ITS FALSE NEIGHBOUR: 'it returns false'. Refute it at one input. -/
def tablesHeadWrong : ChangeSpec := { name := "tablesHead", fn := fun _ => fun
  | [d] => { results := [.lit (.bool false)], args := [d] }
  | _ => none }
def TablesHeadWrongFalsely : Prop := tablesHeadRow.holds Try.pinned (OpenSpec.ofChange tablesHeadWrong)

/-- 'quarterdecklaw07.TablesGreat': WHATEVER THE INPUT: true; the input reads as it did. -/
def tablesGreatSpec : ChangeSpec := { name := "tablesGreat", fn := fun _ => fun
  | [d] => { results := [.lit (.bool true)], args := [d] }
  | _ => none }
def tablesGreatRow : OpenClaim := { program := "ytfdoejdnhogepaa", sum := "1f49e39b264086e52213795704bc02a60a72ac340308efbad102c03dcac4bc4a", func := "quarterdeck/quarterdecklaw07.TablesGreat", spec := "tablesGreat", unfollowed := true, recurses := true, apart := false }
def TablesGreatSaid : Prop := tablesGreatRow.holds Try.pinned (OpenSpec.ofChange tablesGreatSpec)

/-- ITS FALSE NEIGHBOUR: 'it returns false'. Refute it at one input. -/
def tablesGreatWrong : ChangeSpec := { name := "tablesGreat", fn := fun _ => fun
  | [d] => { results := [.lit (.bool false)], args := [d] }
  | _ => none }
def TablesGreatWrongFalsely : Prop := tablesGreatRow.holds Try.pinned (OpenSpec.ofChange tablesGreatWrong)

/-- 'quarterdecklaw08.FrameAgain': WHATEVER THE INPUT: true; the input reads as it did. -/
def frameAgainSpec : ChangeSpec := { name := "frameAgain", fn := fun _ => fun
  | [d1, d2] => { results := [.lit (.bool true)], args := [d1, d2] }
  | _ => none }
def frameAgainRow : OpenClaim := { program := "ytfdoejdnhogepaa", sum := "1f49e39b264086e52213795704bc02a60a72ac340308efbad102c03dcac4bc4a", func := "quarterdeck/quarterdecklaw08.FrameAgain", spec := "frameAgain", unfollowed := true, recurses := true, apart := false }
def FrameAgainSaid : Prop := frameAgainRow.holds Try.pinned (OpenSpec.ofChange frameAgainSpec)

/-- ITS FALSE NEIGHBOUR: 'it returns false'. Refute it at one input. -/
def frameAgainWrong : ChangeSpec := { name := "frameAgain", fn := fun _ => fun
  | [d1, d2] => { results := [.lit (.bool false)], args := [d1, d2] }
  | _ => none }
def FrameAgainWrongFalsely : Prop := frameAgainRow.holds Try.pinned (OpenSpec.ofChange frameAgainWrong)

/-- 'quarterdecklaw08.FrameOwns': WHATEVER THE INPUT: true; the input reads as it did. -/
def frameOwnsSpec : ChangeSpec := { name := "frameOwns", fn := fun _ => fun
  | [d1, d2] => { results := [.lit (.bool true)], args := [d1, d2] }
  | _ => none }
def frameOwnsRow : OpenClaim := { program := "ytfdoejdnhogepaa", sum := "1f49e39b264086e52213795704bc02a60a72ac340308efbad102c03dcac4bc4a", func := "quarterdeck/quarterdecklaw08.FrameOwns", spec := "frameOwns", unfollowed := true, recurses := true, apart := false }
def FrameOwnsSaid : Prop := frameOwnsRow.holds Try.pinned (OpenSpec.ofChange frameOwnsSpec)

/-- ITS FALSE NEIGHBOUR: 'it returns false'. Refute it at one input. -/
def frameOwnsWrong : ChangeSpec := { name := "frameOwns", fn := fun _ => fun
  | [d1, d2] => { results := [.lit (.bool false)], args := [d1, d2] }
  | _ => none }
def FrameOwnsWrongFalsely : Prop := frameOwnsRow.holds Try.pinned (OpenSpec.ofChange frameOwnsWrong)

/-- 'quarterdecklaw08.FrameShares': WHATEVER THE INPUT: true; the input reads as it did. -/
def frameSharesSpec : ChangeSpec := { name := "frameShares", fn := fun _ => fun
  | [d] => { results := [.lit (.bool true)], args := [d] }
  | _ => none }
def frameSharesRow : OpenClaim := { program := "ytfdoejdnhogepaa", sum := "1f49e39b264086e52213795704bc02a60a72ac340308efbad102c03dcac4bc4a", func := "quarterdeck/quarterdecklaw08.FrameShares", spec := "frameShares", unfollowed := true, recurses := true, apart := false }
def FrameSharesSaid : Prop := frameSharesRow.holds Try.pinned (OpenSpec.ofChange frameSharesSpec)

/-- ITS FALSE NEIGHBOUR: 'it returns false'. Refute it at one input. -/
def frameSharesWrong : ChangeSpec := { name := "frameShares", fn := fun _ => fun
  | [d] => { results := [.lit (.bool false)], args := [d] }
  | _ => none }
def FrameSharesWrongFalsely : Prop := frameSharesRow.holds Try.pinned (OpenSpec.ofChange frameSharesWrong)

/-- 'quarterdecklaw08.FrameFirst': WHATEVER THE INPUT: true; the input reads as it did. -/
def frameFirstSpec : ChangeSpec := { name := "frameFirst", fn := fun _ => fun
  | [d1, d2, d3] => { results := [.lit (.bool true)], args := [d1, d2, d3] }
  | _ => none }
def frameFirstRow : OpenClaim := { program := "ytfdoejdnhogepaa", sum := "1f49e39b264086e52213795704bc02a60a72ac340308efbad102c03dcac4bc4a", func := "quarterdeck/quarterdecklaw08.FrameFirst", spec := "frameFirst", unfollowed := true, recurses := true, apart := false }
def FrameFirstSaid : Prop := frameFirstRow.holds Try.pinned (OpenSpec.ofChange frameFirstSpec)

/-- ITS FALSE NEIGHBOUR: 'it returns false'. Refute it at one input. -/
def frameFirstWrong : ChangeSpec := { name := "frameFirst", fn := fun _ => fun
  | [d1, d2, d3] => { results := [.lit (.bool false)], args := [d1, d2, d3] }
  | _ => none }
def FrameFirstWrongFalsely : Prop := frameFirstRow.holds Try.pinned (OpenSpec.ofChange frameFirstWrong)

/-- 'quarterdecklaw08.FrameSwitch': WHATEVER THE INPUT: true; the input reads as it did. -/
def frameSwitchSpec : ChangeSpec := { name := "frameSwitch", fn := fun _ => fun
  | [d1, d2, d3, d4] => { results := [.lit (.bool true)], args := [d1, d2, d3, d4] }
  | _ => none }
def frameSwitchRow : OpenClaim := { program := "ytfdoejdnhogepaa", sum := "1f49e39b264086e52213795704bc02a60a72ac340308efbad102c03dcac4bc4a", func := "quarterdeck/quarterdecklaw08.FrameSwitch", spec := "frameSwitch", unfollowed := true, recurses := true, apart := false }
def FrameSwitchSaid : Prop := frameSwitchRow.holds Try.pinned (OpenSpec.ofChange frameSwitchSpec)

/-- ITS FALSE NEIGHBOUR: 'it returns false'. Refute it at one input. -/
def frameSwitchWrong : ChangeSpec := { name := "frameSwitch", fn := fun _ => fun
  | [d1, d2, d3, d4] => { results := [.lit (.bool false)], args := [d1, d2, d3, d4] }
  | _ => none }
def FrameSwitchWrongFalsely : Prop := frameSwitchRow.holds Try.pinned (OpenSpec.ofChange frameSwitchWrong)

/-- 'quarterdecklaw08.FrameNone': WHATEVER THE INPUT: true; the input reads as it did. -/
def frameNoneSpec : ChangeSpec := { name := "frameNone", fn := fun _ => fun
  | [d1, d2, d3] => { results := [.lit (.bool true)], args := [d1, d2, d3] }
  | _ => none }
def frameNoneRow : OpenClaim := { program := "ytfdoejdnhogepaa", sum := "1f49e39b264086e52213795704bc02a60a72ac340308efbad102c03dcac4bc4a", func := "quarterdeck/quarterdecklaw08.FrameNone", spec := "frameNone", unfollowed := true, recurses := true, apart := false }
def FrameNoneSaid : Prop := frameNoneRow.holds Try.pinned (OpenSpec.ofChange frameNoneSpec)

/-- ITS FALSE NEIGHBOUR: 'it returns false'. Refute it at one input. -/
def frameNoneWrong : ChangeSpec := { name := "frameNone", fn := fun _ => fun
  | [d1, d2, d3] => { results := [.lit (.bool false)], args := [d1, d2, d3] }
  | _ => none }
def FrameNoneWrongFalsely : Prop := frameNoneRow.holds Try.pinned (OpenSpec.ofChange frameNoneWrong)

/- THE SECOND FORM. 'bulk': how many values and letters a reading holds, each counted each time it is reached (what is shared counts as often as it is met; a slice's spare places count too). A statement '..UptoSaid' is the law's where the arguments, and the package variables that the reading takes, are together of bulk at most 1048576: NARROWER than '..Said'. Prove '..Said' where nothing that the law and all that it calls make is longer than what came in: it says more and counts as full. Else prove '..UptoSaid'. A law counts once. -/
mutual
def uptoBulk {H : Type} : DataW H → Nat
  | .lit (.string bytes) => bytes.length + 1
  | .lit _ => 1
  | .nil => 1
  | .ptr d => uptoBulk d + 1
  | .slice elems spare => uptoBulkAll elems + uptoBulkAll spare + 1
  | .agg parts => uptoBulkAll parts + 1
  | .iface _ d => uptoBulk d + 1
  | .map entries => uptoBulkEntries entries + 1
  | .held _ => 1
def uptoBulkAll {H : Type} : List (DataW H) → Nat
  | [] => 0
  | d :: r => uptoBulk d + uptoBulkAll r
def uptoBulkEntries {H : Type} : List (Lit × DataW H) → Nat
  | [] => 0
  | x :: r => uptoBulkEntry x + uptoBulkEntries r
def uptoBulkEntry {H : Type} : Lit × DataW H → Nat
  | (.string bytes, d) => bytes.length + uptoBulk d + 1
  | (_, d) => uptoBulk d + 1
 end
def uptoSmall : (H : Type) → List (DataW H) → Bool := fun _ ds => decide (uptoBulkAll ds ≤ 1048576)
def OpenSpec.upto (s : _root_.Go.ChangeSpec) : _root_.Go.OpenSpec := { _root_.Go.OpenSpec.ofChange s with cond := some uptoSmall }

/-- 'quarterdecklaw07.TablesEncode', WHERE WHAT IT READS IS OF BULK AT MOST 1048576: true; the input reads as it did. -/
def tablesEncodeUptoRow : OpenClaim := { program := "ytfdoejdnhogepaa", sum := "1f49e39b264086e52213795704bc02a60a72ac340308efbad102c03dcac4bc4a", func := "quarterdeck/quarterdecklaw07.TablesEncode", spec := "tablesEncode", unfollowed := true, recurses := true, apart := false, narrowed := true }
def TablesEncodeUptoSaid : Prop := tablesEncodeUptoRow.holds Try.pinned (OpenSpec.upto tablesEncodeSpec)

/-- 'quarterdecklaw07.TablesBack', WHERE WHAT IT READS IS OF BULK AT MOST 1048576: true; the input reads as it did. -/
def tablesBackUptoRow : OpenClaim := { program := "ytfdoejdnhogepaa", sum := "1f49e39b264086e52213795704bc02a60a72ac340308efbad102c03dcac4bc4a", func := "quarterdeck/quarterdecklaw07.TablesBack", spec := "tablesBack", unfollowed := true, recurses := true, apart := false, narrowed := true }
def TablesBackUptoSaid : Prop := tablesBackUptoRow.holds Try.pinned (OpenSpec.upto tablesBackSpec)

/-- 'quarterdecklaw07.TablesOnce', WHERE WHAT IT READS IS OF BULK AT MOST 1048576: true; the input reads as it did. -/
def tablesOnceUptoRow : OpenClaim := { program := "ytfdoejdnhogepaa", sum := "1f49e39b264086e52213795704bc02a60a72ac340308efbad102c03dcac4bc4a", func := "quarterdeck/quarterdecklaw07.TablesOnce", spec := "tablesOnce", unfollowed := true, recurses := true, apart := false, narrowed := true }
def TablesOnceUptoSaid : Prop := tablesOnceUptoRow.holds Try.pinned (OpenSpec.upto tablesOnceSpec)

/-- 'quarterdecklaw07.TablesParts', WHERE WHAT IT READS IS OF BULK AT MOST 1048576: true; the input reads as it did. -/
def tablesPartsUptoRow : OpenClaim := { program := "ytfdoejdnhogepaa", sum := "1f49e39b264086e52213795704bc02a60a72ac340308efbad102c03dcac4bc4a", func := "quarterdeck/quarterdecklaw07.TablesParts", spec := "tablesParts", unfollowed := true, recurses := true, apart := false, narrowed := true }
def TablesPartsUptoSaid : Prop := tablesPartsUptoRow.holds Try.pinned (OpenSpec.upto tablesPartsSpec)

/-- 'quarterdecklaw07.TablesHead', WHERE WHAT IT READS IS OF BULK AT MOST 1048576: true; the input reads as it did. -/
def tablesHeadUptoRow : OpenClaim := { program := "ytfdoejdnhogepaa", sum := "1f49e39b264086e52213795704bc02a60a72ac340308efbad102c03dcac4bc4a", func := "quarterdeck/quarterdecklaw07.TablesHead", spec := "tablesHead", unfollowed := true, recurses := true, apart := false, narrowed := true }
def TablesHeadUptoSaid : Prop := tablesHeadUptoRow.holds Try.pinned (OpenSpec.upto tablesHeadSpec)

/-- 'quarterdecklaw07.TablesGreat', WHERE WHAT IT READS IS OF BULK AT MOST 1048576: true; the input reads as it did. -/
def tablesGreatUptoRow : OpenClaim := { program := "ytfdoejdnhogepaa", sum := "1f49e39b264086e52213795704bc02a60a72ac340308efbad102c03dcac4bc4a", func := "quarterdeck/quarterdecklaw07.TablesGreat", spec := "tablesGreat", unfollowed := true, recurses := true, apart := false, narrowed := true }
def TablesGreatUptoSaid : Prop := tablesGreatUptoRow.holds Try.pinned (OpenSpec.upto tablesGreatSpec)

/-- 'quarterdecklaw08.FrameAgain', WHERE WHAT IT READS IS OF BULK AT MOST 1048576: true; the input reads as it did. -/
def frameAgainUptoRow : OpenClaim := { program := "ytfdoejdnhogepaa", sum := "1f49e39b264086e52213795704bc02a60a72ac340308efbad102c03dcac4bc4a", func := "quarterdeck/quarterdecklaw08.FrameAgain", spec := "frameAgain", unfollowed := true, recurses := true, apart := false, narrowed := true }
def FrameAgainUptoSaid : Prop := frameAgainUptoRow.holds Try.pinned (OpenSpec.upto frameAgainSpec)

/-- 'quarterdecklaw08.FrameOwns', WHERE WHAT IT READS IS OF BULK AT MOST 1048576: true; the input reads as it did. -/
def frameOwnsUptoRow : OpenClaim := { program := "ytfdoejdnhogepaa", sum := "1f49e39b264086e52213795704bc02a60a72ac340308efbad102c03dcac4bc4a", func := "quarterdeck/quarterdecklaw08.FrameOwns", spec := "frameOwns", unfollowed := true, recurses := true, apart := false, narrowed := true }
def FrameOwnsUptoSaid : Prop := frameOwnsUptoRow.holds Try.pinned (OpenSpec.upto frameOwnsSpec)

/-- 'quarterdecklaw08.FrameShares', WHERE WHAT IT READS IS OF BULK AT MOST 1048576: true; the input reads as it did. -/
def frameSharesUptoRow : OpenClaim := { program := "ytfdoejdnhogepaa", sum := "1f49e39b264086e52213795704bc02a60a72ac340308efbad102c03dcac4bc4a", func := "quarterdeck/quarterdecklaw08.FrameShares", spec := "frameShares", unfollowed := true, recurses := true, apart := false, narrowed := true }
def FrameSharesUptoSaid : Prop := frameSharesUptoRow.holds Try.pinned (OpenSpec.upto frameSharesSpec)

/-- 'quarterdecklaw08.FrameFirst', WHERE WHAT IT READS IS OF BULK AT MOST 1048576: true; the input reads as it did. -/
def frameFirstUptoRow : OpenClaim := { program := "ytfdoejdnhogepaa", sum := "1f49e39b264086e52213795704bc02a60a72ac340308efbad102c03dcac4bc4a", func := "quarterdeck/quarterdecklaw08.FrameFirst", spec := "frameFirst", unfollowed := true, recurses := true, apart := false, narrowed := true }
def FrameFirstUptoSaid : Prop := frameFirstUptoRow.holds Try.pinned (OpenSpec.upto frameFirstSpec)

/-- 'quarterdecklaw08.FrameSwitch', WHERE WHAT IT READS IS OF BULK AT MOST 1048576: true; the input reads as it did. -/
def frameSwitchUptoRow : OpenClaim := { program := "ytfdoejdnhogepaa", sum := "1f49e39b264086e52213795704bc02a60a72ac340308efbad102c03dcac4bc4a", func := "quarterdeck/quarterdecklaw08.FrameSwitch", spec := "frameSwitch", unfollowed := true, recurses := true, apart := false, narrowed := true }
def FrameSwitchUptoSaid : Prop := frameSwitchUptoRow.holds Try.pinned (OpenSpec.upto frameSwitchSpec)

/-- 'quarterdecklaw08.FrameNone', WHERE WHAT IT READS IS OF BULK AT MOST 1048576: true; the input reads as it did. -/
def frameNoneUptoRow : OpenClaim := { program := "ytfdoejdnhogepaa", sum := "1f49e39b264086e52213795704bc02a60a72ac340308efbad102c03dcac4bc4a", func := "quarterdeck/quarterdecklaw08.FrameNone", spec := "frameNone", unfollowed := true, recurses := true, apart := false, narrowed := true }
def FrameNoneUptoSaid : Prop := frameNoneUptoRow.holds Try.pinned (OpenSpec.upto frameNoneSpec)

end Rows
end Go.Proofs.Ytfdoejdnhogepaa
