/-
  No cell of these rows narrows 'for every input' (looked for: loops, veiled, ifaces, maps, wideKeys, modest, calm, conditions, laid).
  DERIVED. THE GIVEN ROWS OF THIS SEAT. 7 by the template 'for every input the law returns true; each argument reads behind the call as it read before'; 0 by the template 'total and deterministic' (their statements: YtpjeggbkhbghaaaTotals.lean).
  GIVEN WITH THE SEED: the statements are not yours to turn. If you find one false, say at which input.
  Laid BY PROGRAM, IN A SANDBOX (cutbox-rows.mjs): the forced cells as the released guide's own fill.sh prints them over the translation abccca71802290d7… (all of the seat's roots in one cut). By AI agents, Wed Nov 11 2026. No macro, syntax, notation, axiom, sorry.
-/
import Derived.Test.YtpjeggbkhbghaaaChecked
import GoSem.Claim
import GoSem.ClaimJoined
import GoSem.ClaimMapViews
import Derived.JoinedTies
import Derived.KernelRfl
namespace Go.Proofs.Ytpjeggbkhbghaaa
/- THE CELL 'sum', in the pinned program and in every row, IS THE sha256 OF THE DUMP (.gsa) THAT YtpjeggbkhbghaaaProg.lean LOADS. Nothing in Lean hashes anything: it is a label: what it is worth is what the hold of that sum in a sandbox is worth. -/
noncomputable def Try.pinned : Pinned := { name := "ytpjeggbkhbghaaa", sum := "abccca71802290d74bbaad7c777e48fe3a7223c2f6d5e255a2c6bfc1e9d4544a", checked := Try.checked }
namespace Rows
def none {H : Type} : Left H := { results := [], args := [] }

/-- 'sealwaxlaw16.MarksPlays': WHATEVER THE INPUT: true; the input reads as it did. -/
def marksPlaysSpec : ChangeSpec := { name := "marksPlays", fn := fun _ => fun
  | [d1, d2, d3] => { results := [.lit (.bool true)], args := [d1, d2, d3] }
  | _ => none }
def marksPlaysRow : OpenClaim := { program := "ytpjeggbkhbghaaa", sum := "abccca71802290d74bbaad7c777e48fe3a7223c2f6d5e255a2c6bfc1e9d4544a", func := "sealwax/sealwaxlaw16.MarksPlays", spec := "marksPlays", inPlace := ["slices.overlaps[sealwax/api.Mark]"], unfollowed := true, recurses := true, plainKeys := false, apart := false }
def MarksPlaysSaid : Prop := marksPlaysRow.holds Try.pinned (OpenSpec.ofChange marksPlaysSpec)

/-- ITS FALSE NEIGHBOUR: 'it returns false'. Refute it at one input. -/
def marksPlaysWrong : ChangeSpec := { name := "marksPlays", fn := fun _ => fun
  | [d1, d2, d3] => { results := [.lit (.bool false)], args := [d1, d2, d3] }
  | _ => none }
def MarksPlaysWrongFalsely : Prop := marksPlaysRow.holds Try.pinned (OpenSpec.ofChange marksPlaysWrong)

/-- 'sealwaxlaw16.MarksStyles': WHATEVER THE INPUT: true; the input reads as it did. -/
def marksStylesSpec : ChangeSpec := { name := "marksStyles", fn := fun _ => fun
  | [d] => { results := [.lit (.bool true)], args := [d] }
  | _ => none }
def marksStylesRow : OpenClaim := { program := "ytpjeggbkhbghaaa", sum := "abccca71802290d74bbaad7c777e48fe3a7223c2f6d5e255a2c6bfc1e9d4544a", func := "sealwax/sealwaxlaw16.MarksStyles", spec := "marksStyles", inPlace := ["slices.overlaps[sealwax/api.Mark]"], unfollowed := true, recurses := true, plainKeys := false, apart := false }
def MarksStylesSaid : Prop := marksStylesRow.holds Try.pinned (OpenSpec.ofChange marksStylesSpec)

/-- ITS FALSE NEIGHBOUR: 'it returns false'. Refute it at one input. -/
def marksStylesWrong : ChangeSpec := { name := "marksStyles", fn := fun _ => fun
  | [d] => { results := [.lit (.bool false)], args := [d] }
  | _ => none }
def MarksStylesWrongFalsely : Prop := marksStylesRow.holds Try.pinned (OpenSpec.ofChange marksStylesWrong)

/-- 'sealwaxlaw16.MarksRuns': WHATEVER THE INPUT: true; the input reads as it did. -/
def marksRunsSpec : ChangeSpec := { name := "marksRuns", fn := fun _ => fun
  | [d] => { results := [.lit (.bool true)], args := [d] }
  | _ => none }
def marksRunsRow : OpenClaim := { program := "ytpjeggbkhbghaaa", sum := "abccca71802290d74bbaad7c777e48fe3a7223c2f6d5e255a2c6bfc1e9d4544a", func := "sealwax/sealwaxlaw16.MarksRuns", spec := "marksRuns", inPlace := ["slices.overlaps[sealwax/api.Mark]"], unfollowed := true, recurses := true, plainKeys := false, apart := false }
def MarksRunsSaid : Prop := marksRunsRow.holds Try.pinned (OpenSpec.ofChange marksRunsSpec)

/-- ITS FALSE NEIGHBOUR: 'it returns false'. Refute it at one input. -/
def marksRunsWrong : ChangeSpec := { name := "marksRuns", fn := fun _ => fun
  | [d] => { results := [.lit (.bool false)], args := [d] }
  | _ => none }
def MarksRunsWrongFalsely : Prop := marksRunsRow.holds Try.pinned (OpenSpec.ofChange marksRunsWrong)

/-- 'sealwaxlaw16.MarksConverge': WHATEVER THE INPUT: true; the input reads as it did. -/
def marksConvergeSpec : ChangeSpec := { name := "marksConverge", fn := fun _ => fun
  | [d1, d2] => { results := [.lit (.bool true)], args := [d1, d2] }
  | _ => none }
def marksConvergeRow : OpenClaim := { program := "ytpjeggbkhbghaaa", sum := "abccca71802290d74bbaad7c777e48fe3a7223c2f6d5e255a2c6bfc1e9d4544a", func := "sealwax/sealwaxlaw16.MarksConverge", spec := "marksConverge", inPlace := ["slices.overlaps[sealwax/api.Mark]"], unfollowed := true, recurses := true, plainKeys := false, apart := false }
def MarksConvergeSaid : Prop := marksConvergeRow.holds Try.pinned (OpenSpec.ofChange marksConvergeSpec)

/-- ITS FALSE NEIGHBOUR: 'it returns false'. Refute it at one input. -/
def marksConvergeWrong : ChangeSpec := { name := "marksConverge", fn := fun _ => fun
  | [d1, d2] => { results := [.lit (.bool false)], args := [d1, d2] }
  | _ => none }
def MarksConvergeWrongFalsely : Prop := marksConvergeRow.holds Try.pinned (OpenSpec.ofChange marksConvergeWrong)

/-- 'sealwaxlaw16.MarksText': WHATEVER THE INPUT: true; the input reads as it did. -/
def marksTextSpec : ChangeSpec := { name := "marksText", fn := fun _ => fun
  | [d] => { results := [.lit (.bool true)], args := [d] }
  | _ => none }
def marksTextRow : OpenClaim := { program := "ytpjeggbkhbghaaa", sum := "abccca71802290d74bbaad7c777e48fe3a7223c2f6d5e255a2c6bfc1e9d4544a", func := "sealwax/sealwaxlaw16.MarksText", spec := "marksText", inPlace := ["slices.overlaps[sealwax/api.Mark]", "internal/abi.NoEscape"], unfollowed := true, recurses := true, plainKeys := false, apart := false }
def MarksTextSaid : Prop := marksTextRow.holds Try.pinned (OpenSpec.ofChange marksTextSpec)

/-- ITS FALSE NEIGHBOUR: 'it returns false'. Refute it at one input. -/
def marksTextWrong : ChangeSpec := { name := "marksText", fn := fun _ => fun
  | [d] => { results := [.lit (.bool false)], args := [d] }
  | _ => none }
def MarksTextWrongFalsely : Prop := marksTextRow.holds Try.pinned (OpenSpec.ofChange marksTextWrong)

/-- 'sealwaxlaw16.MarksGrow': WHATEVER THE INPUT: true; the input reads as it did. -/
def marksGrowSpec : ChangeSpec := { name := "marksGrow", fn := fun _ => fun
  | [d1, d2, d3] => { results := [.lit (.bool true)], args := [d1, d2, d3] }
  | _ => none }
def marksGrowRow : OpenClaim := { program := "ytpjeggbkhbghaaa", sum := "abccca71802290d74bbaad7c777e48fe3a7223c2f6d5e255a2c6bfc1e9d4544a", func := "sealwax/sealwaxlaw16.MarksGrow", spec := "marksGrow", inPlace := ["slices.overlaps[sealwax/api.Mark]"], unfollowed := true, recurses := true, plainKeys := false, apart := false }
def MarksGrowSaid : Prop := marksGrowRow.holds Try.pinned (OpenSpec.ofChange marksGrowSpec)

/-- ITS FALSE NEIGHBOUR: 'it returns false'. Refute it at one input. -/
def marksGrowWrong : ChangeSpec := { name := "marksGrow", fn := fun _ => fun
  | [d1, d2, d3] => { results := [.lit (.bool false)], args := [d1, d2, d3] }
  | _ => none }
def MarksGrowWrongFalsely : Prop := marksGrowRow.holds Try.pinned (OpenSpec.ofChange marksGrowWrong)

/-- 'sealwaxlaw16.MarksNobody': WHATEVER THE INPUT: true; the input reads as it did. -/
def marksNobodySpec : ChangeSpec := { name := "marksNobody", fn := fun _ => fun
  | [d1, d2] => { results := [.lit (.bool true)], args := [d1, d2] }
  | _ => none }
def marksNobodyRow : OpenClaim := { program := "ytpjeggbkhbghaaa", sum := "abccca71802290d74bbaad7c777e48fe3a7223c2f6d5e255a2c6bfc1e9d4544a", func := "sealwax/sealwaxlaw16.MarksNobody", spec := "marksNobody", inPlace := ["slices.overlaps[sealwax/api.Mark]"], unfollowed := true, recurses := true, plainKeys := false, apart := false }
def MarksNobodySaid : Prop := marksNobodyRow.holds Try.pinned (OpenSpec.ofChange marksNobodySpec)

/-- ITS FALSE NEIGHBOUR: 'it returns false'. Refute it at one input. -/
def marksNobodyWrong : ChangeSpec := { name := "marksNobody", fn := fun _ => fun
  | [d1, d2] => { results := [.lit (.bool false)], args := [d1, d2] }
  | _ => none }
def MarksNobodyWrongFalsely : Prop := marksNobodyRow.holds Try.pinned (OpenSpec.ofChange marksNobodyWrong)

/- THE SECOND FORM. 'bulk': how many values and letters a reading holds, each counted each time it is reached (what is shared counts as often as it is met; a slice's spare places count too). A statement '..UptoSaid' is the law's where the arguments, and the package variables that the reading takes, are together of bulk at most 1048576: NARROWER than '..Said'. Prove '..Said' where nothing that the law and all that it calls make is longer than what came in: it says more and counts as full. Else prove '..UptoSaid'. A law counts once. -/
mutual
def uptoBulk {H : Type} : DataW H → Nat
  | .lit (.string bytes) => bytes.length + 1
  | .lit _ => 1
  | .nil => 1
  | .ptr d => uptoBulk d + 1
  | .slice elems spare => uptoBulkAll elems + uptoBulkAll spare + 1
  | .agg parts => uptoBulkAll parts + 1
  | .iface _ d => uptoBulk d + 1
  | .map entries => uptoBulkEntries entries + 1
  | .held _ => 1
def uptoBulkAll {H : Type} : List (DataW H) → Nat
  | [] => 0
  | d :: r => uptoBulk d + uptoBulkAll r
def uptoBulkEntries {H : Type} : List (Lit × DataW H) → Nat
  | [] => 0
  | x :: r => uptoBulkEntry x + uptoBulkEntries r
def uptoBulkEntry {H : Type} : Lit × DataW H → Nat
  | (.string bytes, d) => bytes.length + uptoBulk d + 1
  | (_, d) => uptoBulk d + 1
 end
def uptoSmall : (H : Type) → List (DataW H) → Bool := fun _ ds => decide (uptoBulkAll ds ≤ 1048576)
def OpenSpec.upto (s : _root_.Go.ChangeSpec) : _root_.Go.OpenSpec := { _root_.Go.OpenSpec.ofChange s with cond := some uptoSmall }

/-- 'sealwaxlaw16.MarksPlays', WHERE WHAT IT READS IS OF BULK AT MOST 1048576: true; the input reads as it did. -/
def marksPlaysUptoRow : OpenClaim := { program := "ytpjeggbkhbghaaa", sum := "abccca71802290d74bbaad7c777e48fe3a7223c2f6d5e255a2c6bfc1e9d4544a", func := "sealwax/sealwaxlaw16.MarksPlays", spec := "marksPlays", inPlace := ["slices.overlaps[sealwax/api.Mark]"], unfollowed := true, recurses := true, plainKeys := false, apart := false, narrowed := true }
def MarksPlaysUptoSaid : Prop := marksPlaysUptoRow.holds Try.pinned (OpenSpec.upto marksPlaysSpec)

/-- 'sealwaxlaw16.MarksStyles', WHERE WHAT IT READS IS OF BULK AT MOST 1048576: true; the input reads as it did. -/
def marksStylesUptoRow : OpenClaim := { program := "ytpjeggbkhbghaaa", sum := "abccca71802290d74bbaad7c777e48fe3a7223c2f6d5e255a2c6bfc1e9d4544a", func := "sealwax/sealwaxlaw16.MarksStyles", spec := "marksStyles", inPlace := ["slices.overlaps[sealwax/api.Mark]"], unfollowed := true, recurses := true, plainKeys := false, apart := false, narrowed := true }
def MarksStylesUptoSaid : Prop := marksStylesUptoRow.holds Try.pinned (OpenSpec.upto marksStylesSpec)

/-- 'sealwaxlaw16.MarksRuns', WHERE WHAT IT READS IS OF BULK AT MOST 1048576: true; the input reads as it did. -/
def marksRunsUptoRow : OpenClaim := { program := "ytpjeggbkhbghaaa", sum := "abccca71802290d74bbaad7c777e48fe3a7223c2f6d5e255a2c6bfc1e9d4544a", func := "sealwax/sealwaxlaw16.MarksRuns", spec := "marksRuns", inPlace := ["slices.overlaps[sealwax/api.Mark]"], unfollowed := true, recurses := true, plainKeys := false, apart := false, narrowed := true }
def MarksRunsUptoSaid : Prop := marksRunsUptoRow.holds Try.pinned (OpenSpec.upto marksRunsSpec)

/-- 'sealwaxlaw16.MarksConverge', WHERE WHAT IT READS IS OF BULK AT MOST 1048576: true; the input reads as it did. -/
def marksConvergeUptoRow : OpenClaim := { program := "ytpjeggbkhbghaaa", sum := "abccca71802290d74bbaad7c777e48fe3a7223c2f6d5e255a2c6bfc1e9d4544a", func := "sealwax/sealwaxlaw16.MarksConverge", spec := "marksConverge", inPlace := ["slices.overlaps[sealwax/api.Mark]"], unfollowed := true, recurses := true, plainKeys := false, apart := false, narrowed := true }
def MarksConvergeUptoSaid : Prop := marksConvergeUptoRow.holds Try.pinned (OpenSpec.upto marksConvergeSpec)

/-- 'sealwaxlaw16.MarksText', WHERE WHAT IT READS IS OF BULK AT MOST 1048576: true; the input reads as it did. -/
def marksTextUptoRow : OpenClaim := { program := "ytpjeggbkhbghaaa", sum := "abccca71802290d74bbaad7c777e48fe3a7223c2f6d5e255a2c6bfc1e9d4544a", func := "sealwax/sealwaxlaw16.MarksText", spec := "marksText", inPlace := ["slices.overlaps[sealwax/api.Mark]", "internal/abi.NoEscape"], unfollowed := true, recurses := true, plainKeys := false, apart := false, narrowed := true }
def MarksTextUptoSaid : Prop := marksTextUptoRow.holds Try.pinned (OpenSpec.upto marksTextSpec)

/-- 'sealwaxlaw16.MarksGrow', WHERE WHAT IT READS IS OF BULK AT MOST 1048576: true; the input reads as it did. -/
def marksGrowUptoRow : OpenClaim := { program := "ytpjeggbkhbghaaa", sum := "abccca71802290d74bbaad7c777e48fe3a7223c2f6d5e255a2c6bfc1e9d4544a", func := "sealwax/sealwaxlaw16.MarksGrow", spec := "marksGrow", inPlace := ["slices.overlaps[sealwax/api.Mark]"], unfollowed := true, recurses := true, plainKeys := false, apart := false, narrowed := true }
def MarksGrowUptoSaid : Prop := marksGrowUptoRow.holds Try.pinned (OpenSpec.upto marksGrowSpec)

/-- 'sealwaxlaw16.MarksNobody', WHERE WHAT IT READS IS OF BULK AT MOST 1048576: true; the input reads as it did. -/
def marksNobodyUptoRow : OpenClaim := { program := "ytpjeggbkhbghaaa", sum := "abccca71802290d74bbaad7c777e48fe3a7223c2f6d5e255a2c6bfc1e9d4544a", func := "sealwax/sealwaxlaw16.MarksNobody", spec := "marksNobody", inPlace := ["slices.overlaps[sealwax/api.Mark]"], unfollowed := true, recurses := true, plainKeys := false, apart := false, narrowed := true }
def MarksNobodyUptoSaid : Prop := marksNobodyUptoRow.holds Try.pinned (OpenSpec.upto marksNobodySpec)

end Rows
end Go.Proofs.Ytpjeggbkhbghaaa
