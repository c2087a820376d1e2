/-
  No cell of these rows narrows 'for every input' (looked for: loops, veiled, ifaces, maps, wideKeys, modest, calm, conditions, laid).
  DERIVED. THE GIVEN ROWS OF THIS SEAT. 5 by the template 'for every input the law returns true; each argument reads behind the call as it read before'; 0 by the template 'total and deterministic' (their statements: YtpajidiobifjoaaTotals.lean).
  GIVEN WITH THE SEED: the statements are not yours to turn. If you find one false, say at which input.
  Laid BY PROGRAM, IN A SANDBOX (cutbox-rows.mjs): the forced cells as the released guide's own fill.sh prints them over the translation d2d794b168d69cc4… (all of the seat's roots in one cut). By AI agents, Wed Nov 11 2026. No macro, syntax, notation, axiom, sorry.
-/
import Derived.Test.YtpajidiobifjoaaChecked
import GoSem.Claim
import GoSem.ClaimJoined
import GoSem.ClaimMapViews
import Derived.JoinedTies
import Derived.KernelRfl
namespace Go.Proofs.Ytpajidiobifjoaa
/- THE CELL 'sum', in the pinned program and in every row, IS THE sha256 OF THE DUMP (.gsa) THAT YtpajidiobifjoaaProg.lean LOADS. Nothing in Lean hashes anything: it is a label: what it is worth is what the hold of that sum in a sandbox is worth. -/
noncomputable def Try.pinned : Pinned := { name := "ytpajidiobifjoaa", sum := "d2d794b168d69cc40c83e84708fd6e7555d77afaaf5a22541c52767fbb56bfce", checked := Try.checked }
namespace Rows
def none {H : Type} : Left H := { results := [], args := [] }

/-- 'quarterdecklaw17.SampleDoes': WHATEVER THE INPUT: true; the input reads as it did. -/
def sampleDoesSpec : ChangeSpec := { name := "sampleDoes", fn := fun _ => fun
  | [d1, d2, d3, d4, d5] => { results := [.lit (.bool true)], args := [d1, d2, d3, d4, d5] }
  | _ => none }
def sampleDoesRow : OpenClaim := { program := "ytpajidiobifjoaa", sum := "d2d794b168d69cc40c83e84708fd6e7555d77afaaf5a22541c52767fbb56bfce", func := "quarterdeck/quarterdecklaw17.SampleDoes", spec := "sampleDoes", apart := false }
def SampleDoesSaid : Prop := sampleDoesRow.holds Try.pinned (OpenSpec.ofChange sampleDoesSpec)

/-- ITS FALSE NEIGHBOUR: 'it returns false'. Refute it at one input. -/
def sampleDoesWrong : ChangeSpec := { name := "sampleDoes", fn := fun _ => fun
  | [d1, d2, d3, d4, d5] => { results := [.lit (.bool false)], args := [d1, d2, d3, d4, d5] }
  | _ => none }
def SampleDoesWrongFalsely : Prop := sampleDoesRow.holds Try.pinned (OpenSpec.ofChange sampleDoesWrong)

/-- 'quarterdecklaw17.SampleLast': WHATEVER THE INPUT: true; the input reads as it did. -/
def sampleLastSpec : ChangeSpec := { name := "sampleLast", fn := fun _ => fun
  | [d1, d2, d3, d4] => { results := [.lit (.bool true)], args := [d1, d2, d3, d4] }
  | _ => none }
def sampleLastRow : OpenClaim := { program := "ytpajidiobifjoaa", sum := "d2d794b168d69cc40c83e84708fd6e7555d77afaaf5a22541c52767fbb56bfce", func := "quarterdeck/quarterdecklaw17.SampleLast", spec := "sampleLast", apart := false }
def SampleLastSaid : Prop := sampleLastRow.holds Try.pinned (OpenSpec.ofChange sampleLastSpec)

/-- ITS FALSE NEIGHBOUR: 'it returns false'. Refute it at one input. -/
def sampleLastWrong : ChangeSpec := { name := "sampleLast", fn := fun _ => fun
  | [d1, d2, d3, d4] => { results := [.lit (.bool false)], args := [d1, d2, d3, d4] }
  | _ => none }
def SampleLastWrongFalsely : Prop := sampleLastRow.holds Try.pinned (OpenSpec.ofChange sampleLastWrong)

/-- 'quarterdecklaw17.SampleNone': WHATEVER THE INPUT: true; the input reads as it did. -/
def sampleNoneSpec : ChangeSpec := { name := "sampleNone", fn := fun _ => fun
  | [d1, d2, d3] => { results := [.lit (.bool true)], args := [d1, d2, d3] }
  | _ => none }
def sampleNoneRow : OpenClaim := { program := "ytpajidiobifjoaa", sum := "d2d794b168d69cc40c83e84708fd6e7555d77afaaf5a22541c52767fbb56bfce", func := "quarterdeck/quarterdecklaw17.SampleNone", spec := "sampleNone", apart := false }
def SampleNoneSaid : Prop := sampleNoneRow.holds Try.pinned (OpenSpec.ofChange sampleNoneSpec)

/-- ITS FALSE NEIGHBOUR: 'it returns false'. Refute it at one input. -/
def sampleNoneWrong : ChangeSpec := { name := "sampleNone", fn := fun _ => fun
  | [d1, d2, d3] => { results := [.lit (.bool false)], args := [d1, d2, d3] }
  | _ => none }
def SampleNoneWrongFalsely : Prop := sampleNoneRow.holds Try.pinned (OpenSpec.ofChange sampleNoneWrong)

/-- 'quarterdecklaw17.SampleFresh': WHATEVER THE INPUT: true; the input reads as it did. -/
def sampleFreshSpec : ChangeSpec := { name := "sampleFresh", fn := fun _ => fun
  | [d1, d2, d3, d4, d5, d6] => { results := [.lit (.bool true)], args := [d1, d2, d3, d4, d5, d6] }
  | _ => none }
def sampleFreshRow : OpenClaim := { program := "ytpajidiobifjoaa", sum := "d2d794b168d69cc40c83e84708fd6e7555d77afaaf5a22541c52767fbb56bfce", func := "quarterdeck/quarterdecklaw17.SampleFresh", spec := "sampleFresh", apart := false }
def SampleFreshSaid : Prop := sampleFreshRow.holds Try.pinned (OpenSpec.ofChange sampleFreshSpec)

/-- ITS FALSE NEIGHBOUR: 'it returns false'. Refute it at one input. -/
def sampleFreshWrong : ChangeSpec := { name := "sampleFresh", fn := fun _ => fun
  | [d1, d2, d3, d4, d5, d6] => { results := [.lit (.bool false)], args := [d1, d2, d3, d4, d5, d6] }
  | _ => none }
def SampleFreshWrongFalsely : Prop := sampleFreshRow.holds Try.pinned (OpenSpec.ofChange sampleFreshWrong)

/-- 'quarterdecklaw17.SampleCarries': WHATEVER THE INPUT: true; the input reads as it did. -/
def sampleCarriesSpec : ChangeSpec := { name := "sampleCarries", fn := fun _ => fun
  | [d1, d2, d3] => { results := [.lit (.bool true)], args := [d1, d2, d3] }
  | _ => none }
def sampleCarriesRow : OpenClaim := { program := "ytpajidiobifjoaa", sum := "d2d794b168d69cc40c83e84708fd6e7555d77afaaf5a22541c52767fbb56bfce", func := "quarterdeck/quarterdecklaw17.SampleCarries", spec := "sampleCarries", apart := false }
def SampleCarriesSaid : Prop := sampleCarriesRow.holds Try.pinned (OpenSpec.ofChange sampleCarriesSpec)

/-- ITS FALSE NEIGHBOUR: 'it returns false'. Refute it at one input. -/
def sampleCarriesWrong : ChangeSpec := { name := "sampleCarries", fn := fun _ => fun
  | [d1, d2, d3] => { results := [.lit (.bool false)], args := [d1, d2, d3] }
  | _ => none }
def SampleCarriesWrongFalsely : Prop := sampleCarriesRow.holds Try.pinned (OpenSpec.ofChange sampleCarriesWrong)

/- THE SECOND FORM. 'bulk': how many values and letters a reading holds, each counted each time it is reached (what is shared counts as often as it is met; a slice's spare places count too). A statement '..UptoSaid' is the law's where the arguments, and the package variables that the reading takes, are together of bulk at most 1048576: NARROWER than '..Said'. Prove '..Said' where nothing that the law and all that it calls make is longer than what came in: it says more and counts as full. Else prove '..UptoSaid'. A law counts once. -/
mutual
def uptoBulk {H : Type} : DataW H → Nat
  | .lit (.string bytes) => bytes.length + 1
  | .lit _ => 1
  | .nil => 1
  | .ptr d => uptoBulk d + 1
  | .slice elems spare => uptoBulkAll elems + uptoBulkAll spare + 1
  | .agg parts => uptoBulkAll parts + 1
  | .iface _ d => uptoBulk d + 1
  | .map entries => uptoBulkEntries entries + 1
  | .held _ => 1
def uptoBulkAll {H : Type} : List (DataW H) → Nat
  | [] => 0
  | d :: r => uptoBulk d + uptoBulkAll r
def uptoBulkEntries {H : Type} : List (Lit × DataW H) → Nat
  | [] => 0
  | x :: r => uptoBulkEntry x + uptoBulkEntries r
def uptoBulkEntry {H : Type} : Lit × DataW H → Nat
  | (.string bytes, d) => bytes.length + uptoBulk d + 1
  | (_, d) => uptoBulk d + 1
 end
def uptoSmall : (H : Type) → List (DataW H) → Bool := fun _ ds => decide (uptoBulkAll ds ≤ 1048576)
def OpenSpec.upto (s : _root_.Go.ChangeSpec) : _root_.Go.OpenSpec := { _root_.Go.OpenSpec.ofChange s with cond := some uptoSmall }

/-- 'quarterdecklaw17.SampleDoes', WHERE WHAT IT READS IS OF BULK AT MOST 1048576: true; the input reads as it did. -/
def sampleDoesUptoRow : OpenClaim := { program := "ytpajidiobifjoaa", sum := "d2d794b168d69cc40c83e84708fd6e7555d77afaaf5a22541c52767fbb56bfce", func := "quarterdeck/quarterdecklaw17.SampleDoes", spec := "sampleDoes", apart := false, narrowed := true }
def SampleDoesUptoSaid : Prop := sampleDoesUptoRow.holds Try.pinned (OpenSpec.upto sampleDoesSpec)

/-- 'quarterdecklaw17.SampleLast', WHERE WHAT IT READS IS OF BULK AT MOST 1048576: true; the input reads as it did. -/
def sampleLastUptoRow : OpenClaim := { program := "ytpajidiobifjoaa", sum := "d2d794b168d69cc40c83e84708fd6e7555d77afaaf5a22541c52767fbb56bfce", func := "quarterdeck/quarterdecklaw17.SampleLast", spec := "sampleLast", apart := false, narrowed := true }
def SampleLastUptoSaid : Prop := sampleLastUptoRow.holds Try.pinned (OpenSpec.upto sampleLastSpec)

/-- 'quarterdecklaw17.SampleNone', WHERE WHAT IT READS IS OF BULK AT MOST 1048576: true; the input reads as it did. -/
def sampleNoneUptoRow : OpenClaim := { program := "ytpajidiobifjoaa", sum := "d2d794b168d69cc40c83e84708fd6e7555d77afaaf5a22541c52767fbb56bfce", func := "quarterdeck/quarterdecklaw17.SampleNone", spec := "sampleNone", apart := false, narrowed := true }
def SampleNoneUptoSaid : Prop := sampleNoneUptoRow.holds Try.pinned (OpenSpec.upto sampleNoneSpec)

/-- 'quarterdecklaw17.SampleFresh', WHERE WHAT IT READS IS OF BULK AT MOST 1048576: true; the input reads as it did. -/
def sampleFreshUptoRow : OpenClaim := { program := "ytpajidiobifjoaa", sum := "d2d794b168d69cc40c83e84708fd6e7555d77afaaf5a22541c52767fbb56bfce", func := "quarterdeck/quarterdecklaw17.SampleFresh", spec := "sampleFresh", apart := false, narrowed := true }
def SampleFreshUptoSaid : Prop := sampleFreshUptoRow.holds Try.pinned (OpenSpec.upto sampleFreshSpec)

/-- 'quarterdecklaw17.SampleCarries', WHERE WHAT IT READS IS OF BULK AT MOST 1048576: true; the input reads as it did. -/
def sampleCarriesUptoRow : OpenClaim := { program := "ytpajidiobifjoaa", sum := "d2d794b168d69cc40c83e84708fd6e7555d77afaaf5a22541c52767fbb56bfce", func := "quarterdeck/quarterdecklaw17.SampleCarries", spec := "sampleCarries", apart := false, narrowed := true }
def SampleCarriesUptoSaid : Prop := sampleCarriesUptoRow.holds Try.pinned (OpenSpec.upto sampleCarriesSpec)

end Rows
end Go.Proofs.Ytpajidiobifjoaa
