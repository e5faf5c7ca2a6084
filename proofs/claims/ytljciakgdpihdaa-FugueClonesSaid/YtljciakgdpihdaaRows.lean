/-
  No cell of these rows narrows 'for every input' (looked for: loops, veiled, ifaces, maps, wideKeys, modest, calm, conditions, laid).
  DERIVED. THE GIVEN ROWS OF THIS SEAT. 8 by the template 'for every input the law returns true; each argument reads behind the call as it read before'; 0 by the template 'total and deterministic' (their statements: YtljciakgdpihdaaTotals.lean).
  GIVEN WITH THE SEED: the statements are not yours to turn. If you find one false, say at which input.
  Laid BY PROGRAM, IN A SANDBOX (cutbox-rows.mjs): the forced cells as the released guide's own fill.sh prints them over the translation 6490a76111237856… (all of the seat's roots in one cut). By AI agents, Wed Nov 11 2026. No macro, syntax, notation, axiom, sorry.
-/
import Derived.Test.YtljciakgdpihdaaChecked
import GoSem.Claim
import GoSem.ClaimJoined
import GoSem.ClaimMapViews
import Derived.JoinedTies
import Derived.KernelRfl
namespace Go.Proofs.Ytljciakgdpihdaa
/- THE CELL 'sum', in the pinned program and in every row, IS THE sha256 OF THE DUMP (.gsa) THAT YtljciakgdpihdaaProg.lean LOADS. Nothing in Lean hashes anything: it is a label: what it is worth is what the hold of that sum in a sandbox is worth. -/
noncomputable def Try.pinned : Pinned := { name := "ytljciakgdpihdaa", sum := "6490a761112378562723337bf80b609af7d40bda76a311fde03bd053a9c8d883", checked := Try.checked }
namespace Rows
def none {H : Type} : Left H := { results := [], args := [] }

/-- 'sealwaxlaw15.FuguePlays': WHATEVER THE INPUT: true; the input reads as it did. -/
def fuguePlaysSpec : ChangeSpec := { name := "fuguePlays", fn := fun _ => fun
  | [d] => { results := [.lit (.bool true)], args := [d] }
  | _ => none }
def fuguePlaysRow : OpenClaim := { program := "ytljciakgdpihdaa", sum := "6490a761112378562723337bf80b609af7d40bda76a311fde03bd053a9c8d883", func := "sealwax/sealwaxlaw15.FuguePlays", spec := "fuguePlays", inPlace := ["internal/abi.NoEscape"], unfollowed := true, recurses := true, plainKeys := false, apart := false }
def FuguePlaysSaid : Prop := fuguePlaysRow.holds Try.pinned (OpenSpec.ofChange fuguePlaysSpec)

/-- ITS FALSE NEIGHBOUR: 'it returns false'. Refute it at one input. -/
def fuguePlaysWrong : ChangeSpec := { name := "fuguePlays", fn := fun _ => fun
  | [d] => { results := [.lit (.bool false)], args := [d] }
  | _ => none }
def FuguePlaysWrongFalsely : Prop := fuguePlaysRow.holds Try.pinned (OpenSpec.ofChange fuguePlaysWrong)

/-- 'sealwaxlaw15.FugueAsks': WHATEVER THE INPUT: true; the input reads as it did. -/
def fugueAsksSpec : ChangeSpec := { name := "fugueAsks", fn := fun _ => fun
  | [d1, d2, d3] => { results := [.lit (.bool true)], args := [d1, d2, d3] }
  | _ => none }
def fugueAsksRow : OpenClaim := { program := "ytljciakgdpihdaa", sum := "6490a761112378562723337bf80b609af7d40bda76a311fde03bd053a9c8d883", func := "sealwax/sealwaxlaw15.FugueAsks", spec := "fugueAsks", inPlace := ["internal/abi.NoEscape"], unfollowed := true, recurses := true, plainKeys := false, apart := false }
def FugueAsksSaid : Prop := fugueAsksRow.holds Try.pinned (OpenSpec.ofChange fugueAsksSpec)

/-- ITS FALSE NEIGHBOUR: 'it returns false'. Refute it at one input. -/
def fugueAsksWrong : ChangeSpec := { name := "fugueAsks", fn := fun _ => fun
  | [d1, d2, d3] => { results := [.lit (.bool false)], args := [d1, d2, d3] }
  | _ => none }
def FugueAsksWrongFalsely : Prop := fugueAsksRow.holds Try.pinned (OpenSpec.ofChange fugueAsksWrong)

/-- 'sealwaxlaw15.FugueOne': WHATEVER THE INPUT: true; the input reads as it did. -/
def fugueOneSpec : ChangeSpec := { name := "fugueOne", fn := fun _ => fun
  | [d1, d2] => { results := [.lit (.bool true)], args := [d1, d2] }
  | _ => none }
def fugueOneRow : OpenClaim := { program := "ytljciakgdpihdaa", sum := "6490a761112378562723337bf80b609af7d40bda76a311fde03bd053a9c8d883", func := "sealwax/sealwaxlaw15.FugueOne", spec := "fugueOne", inPlace := ["internal/abi.NoEscape"], unfollowed := true, recurses := true, plainKeys := false, apart := false }
def FugueOneSaid : Prop := fugueOneRow.holds Try.pinned (OpenSpec.ofChange fugueOneSpec)

/-- ITS FALSE NEIGHBOUR: 'it returns false'. Refute it at one input. -/
def fugueOneWrong : ChangeSpec := { name := "fugueOne", fn := fun _ => fun
  | [d1, d2] => { results := [.lit (.bool false)], args := [d1, d2] }
  | _ => none }
def FugueOneWrongFalsely : Prop := fugueOneRow.holds Try.pinned (OpenSpec.ofChange fugueOneWrong)

/-- 'sealwaxlaw15.FugueConverges': WHATEVER THE INPUT: true; the input reads as it did. -/
def fugueConvergesSpec : ChangeSpec := { name := "fugueConverges", fn := fun _ => fun
  | [d1, d2] => { results := [.lit (.bool true)], args := [d1, d2] }
  | _ => none }
def fugueConvergesRow : OpenClaim := { program := "ytljciakgdpihdaa", sum := "6490a761112378562723337bf80b609af7d40bda76a311fde03bd053a9c8d883", func := "sealwax/sealwaxlaw15.FugueConverges", spec := "fugueConverges", inPlace := ["internal/abi.NoEscape"], unfollowed := true, recurses := true, plainKeys := false, apart := false }
def FugueConvergesSaid : Prop := fugueConvergesRow.holds Try.pinned (OpenSpec.ofChange fugueConvergesSpec)

/-- ITS FALSE NEIGHBOUR: 'it returns false'. Refute it at one input. -/
def fugueConvergesWrong : ChangeSpec := { name := "fugueConverges", fn := fun _ => fun
  | [d1, d2] => { results := [.lit (.bool false)], args := [d1, d2] }
  | _ => none }
def FugueConvergesWrongFalsely : Prop := fugueConvergesRow.holds Try.pinned (OpenSpec.ofChange fugueConvergesWrong)

/-- 'sealwaxlaw15.FuguePlans': WHATEVER THE INPUT: true; the input reads as it did. -/
def fuguePlansSpec : ChangeSpec := { name := "fuguePlans", fn := fun _ => fun
  | [d1, d2, d3, d4] => { results := [.lit (.bool true)], args := [d1, d2, d3, d4] }
  | _ => none }
def fuguePlansRow : OpenClaim := { program := "ytljciakgdpihdaa", sum := "6490a761112378562723337bf80b609af7d40bda76a311fde03bd053a9c8d883", func := "sealwax/sealwaxlaw15.FuguePlans", spec := "fuguePlans", inPlace := ["internal/abi.NoEscape"], unfollowed := true, recurses := true, plainKeys := false, apart := false }
def FuguePlansSaid : Prop := fuguePlansRow.holds Try.pinned (OpenSpec.ofChange fuguePlansSpec)

/-- ITS FALSE NEIGHBOUR: 'it returns false'. Refute it at one input. -/
def fuguePlansWrong : ChangeSpec := { name := "fuguePlans", fn := fun _ => fun
  | [d1, d2, d3, d4] => { results := [.lit (.bool false)], args := [d1, d2, d3, d4] }
  | _ => none }
def FuguePlansWrongFalsely : Prop := fuguePlansRow.holds Try.pinned (OpenSpec.ofChange fuguePlansWrong)

/-- 'sealwaxlaw15.FugueStays': WHATEVER THE INPUT: true; the input reads as it did. -/
def fugueStaysSpec : ChangeSpec := { name := "fugueStays", fn := fun _ => fun
  | [d1, d2] => { results := [.lit (.bool true)], args := [d1, d2] }
  | _ => none }
def fugueStaysRow : OpenClaim := { program := "ytljciakgdpihdaa", sum := "6490a761112378562723337bf80b609af7d40bda76a311fde03bd053a9c8d883", func := "sealwax/sealwaxlaw15.FugueStays", spec := "fugueStays", inPlace := ["internal/abi.NoEscape"], unfollowed := true, recurses := true, plainKeys := false, apart := false }
def FugueStaysSaid : Prop := fugueStaysRow.holds Try.pinned (OpenSpec.ofChange fugueStaysSpec)

/-- ITS FALSE NEIGHBOUR: 'it returns false'. Refute it at one input. -/
def fugueStaysWrong : ChangeSpec := { name := "fugueStays", fn := fun _ => fun
  | [d1, d2] => { results := [.lit (.bool false)], args := [d1, d2] }
  | _ => none }
def FugueStaysWrongFalsely : Prop := fugueStaysRow.holds Try.pinned (OpenSpec.ofChange fugueStaysWrong)

/-- 'sealwaxlaw15.FugueClones': WHATEVER THE INPUT: true; the input reads as it did. -/
def fugueClonesSpec : ChangeSpec := { name := "fugueClones", fn := fun _ => fun
  | [d1, d2, d3] => { results := [.lit (.bool true)], args := [d1, d2, d3] }
  | _ => none }
def fugueClonesRow : OpenClaim := { program := "ytljciakgdpihdaa", sum := "6490a761112378562723337bf80b609af7d40bda76a311fde03bd053a9c8d883", func := "sealwax/sealwaxlaw15.FugueClones", spec := "fugueClones", inPlace := ["internal/abi.NoEscape"], unfollowed := true, recurses := true, plainKeys := false, apart := false }
def FugueClonesSaid : Prop := fugueClonesRow.holds Try.pinned (OpenSpec.ofChange fugueClonesSpec)

/-- ITS FALSE NEIGHBOUR: 'it returns false'. Refute it at one input. -/
def fugueClonesWrong : ChangeSpec := { name := "fugueClones", fn := fun _ => fun
  | [d1, d2, d3] => { results := [.lit (.bool false)], args := [d1, d2, d3] }
  | _ => none }
def FugueClonesWrongFalsely : Prop := fugueClonesRow.holds Try.pinned (OpenSpec.ofChange fugueClonesWrong)

/-- 'sealwaxlaw15.FugueNobody': WHATEVER THE INPUT: true; the input reads as it did. -/
def fugueNobodySpec : ChangeSpec := { name := "fugueNobody", fn := fun _ => fun
  | [d1, d2] => { results := [.lit (.bool true)], args := [d1, d2] }
  | _ => none }
def fugueNobodyRow : OpenClaim := { program := "ytljciakgdpihdaa", sum := "6490a761112378562723337bf80b609af7d40bda76a311fde03bd053a9c8d883", func := "sealwax/sealwaxlaw15.FugueNobody", spec := "fugueNobody", inPlace := ["internal/abi.NoEscape"], unfollowed := true, recurses := true, plainKeys := false, apart := false }
def FugueNobodySaid : Prop := fugueNobodyRow.holds Try.pinned (OpenSpec.ofChange fugueNobodySpec)

/-- ITS FALSE NEIGHBOUR: 'it returns false'. Refute it at one input. -/
def fugueNobodyWrong : ChangeSpec := { name := "fugueNobody", fn := fun _ => fun
  | [d1, d2] => { results := [.lit (.bool false)], args := [d1, d2] }
  | _ => none }
def FugueNobodyWrongFalsely : Prop := fugueNobodyRow.holds Try.pinned (OpenSpec.ofChange fugueNobodyWrong)

/- THE SECOND FORM. 'bulk': how many values and letters a reading holds, each counted each time it is reached (what is shared counts as often as it is met; a slice's spare places count too). A statement '..UptoSaid' is the law's where the arguments, and the package variables that the reading takes, are together of bulk at most 1048576: NARROWER than '..Said'. Prove '..Said' where nothing that the law and all that it calls make is longer than what came in: it says more and counts as full. Else prove '..UptoSaid'. A law counts once. -/
mutual
def uptoBulk {H : Type} : DataW H → Nat
  | .lit (.string bytes) => bytes.length + 1
  | .lit _ => 1
  | .nil => 1
  | .ptr d => uptoBulk d + 1
  | .slice elems spare => uptoBulkAll elems + uptoBulkAll spare + 1
  | .agg parts => uptoBulkAll parts + 1
  | .iface _ d => uptoBulk d + 1
  | .map entries => uptoBulkEntries entries + 1
  | .held _ => 1
def uptoBulkAll {H : Type} : List (DataW H) → Nat
  | [] => 0
  | d :: r => uptoBulk d + uptoBulkAll r
def uptoBulkEntries {H : Type} : List (Lit × DataW H) → Nat
  | [] => 0
  | x :: r => uptoBulkEntry x + uptoBulkEntries r
def uptoBulkEntry {H : Type} : Lit × DataW H → Nat
  | (.string bytes, d) => bytes.length + uptoBulk d + 1
  | (_, d) => uptoBulk d + 1
 end
def uptoSmall : (H : Type) → List (DataW H) → Bool := fun _ ds => decide (uptoBulkAll ds ≤ 1048576)
def OpenSpec.upto (s : _root_.Go.ChangeSpec) : _root_.Go.OpenSpec := { _root_.Go.OpenSpec.ofChange s with cond := some uptoSmall }

/-- 'sealwaxlaw15.FuguePlays', WHERE WHAT IT READS IS OF BULK AT MOST 1048576: true; the input reads as it did. -/
def fuguePlaysUptoRow : OpenClaim := { program := "ytljciakgdpihdaa", sum := "6490a761112378562723337bf80b609af7d40bda76a311fde03bd053a9c8d883", func := "sealwax/sealwaxlaw15.FuguePlays", spec := "fuguePlays", inPlace := ["internal/abi.NoEscape"], unfollowed := true, recurses := true, plainKeys := false, apart := false, narrowed := true }
def FuguePlaysUptoSaid : Prop := fuguePlaysUptoRow.holds Try.pinned (OpenSpec.upto fuguePlaysSpec)

/-- 'sealwaxlaw15.FugueAsks', WHERE WHAT IT READS IS OF BULK AT MOST 1048576: true; the input reads as it did. -/
def fugueAsksUptoRow : OpenClaim := { program := "ytljciakgdpihdaa", sum := "6490a761112378562723337bf80b609af7d40bda76a311fde03bd053a9c8d883", func := "sealwax/sealwaxlaw15.FugueAsks", spec := "fugueAsks", inPlace := ["internal/abi.NoEscape"], unfollowed := true, recurses := true, plainKeys := false, apart := false, narrowed := true }
def FugueAsksUptoSaid : Prop := fugueAsksUptoRow.holds Try.pinned (OpenSpec.upto fugueAsksSpec)

/-- 'sealwaxlaw15.FugueOne', WHERE WHAT IT READS IS OF BULK AT MOST 1048576: true; the input reads as it did. -/
def fugueOneUptoRow : OpenClaim := { program := "ytljciakgdpihdaa", sum := "6490a761112378562723337bf80b609af7d40bda76a311fde03bd053a9c8d883", func := "sealwax/sealwaxlaw15.FugueOne", spec := "fugueOne", inPlace := ["internal/abi.NoEscape"], unfollowed := true, recurses := true, plainKeys := false, apart := false, narrowed := true }
def FugueOneUptoSaid : Prop := fugueOneUptoRow.holds Try.pinned (OpenSpec.upto fugueOneSpec)

/-- 'sealwaxlaw15.FugueConverges', WHERE WHAT IT READS IS OF BULK AT MOST 1048576: true; the input reads as it did. -/
def fugueConvergesUptoRow : OpenClaim := { program := "ytljciakgdpihdaa", sum := "6490a761112378562723337bf80b609af7d40bda76a311fde03bd053a9c8d883", func := "sealwax/sealwaxlaw15.FugueConverges", spec := "fugueConverges", inPlace := ["internal/abi.NoEscape"], unfollowed := true, recurses := true, plainKeys := false, apart := false, narrowed := true }
def FugueConvergesUptoSaid : Prop := fugueConvergesUptoRow.holds Try.pinned (OpenSpec.upto fugueConvergesSpec)

/-- 'sealwaxlaw15.FuguePlans', WHERE WHAT IT READS IS OF BULK AT MOST 1048576: true; the input reads as it did. -/
def fuguePlansUptoRow : OpenClaim := { program := "ytljciakgdpihdaa", sum := "6490a761112378562723337bf80b609af7d40bda76a311fde03bd053a9c8d883", func := "sealwax/sealwaxlaw15.FuguePlans", spec := "fuguePlans", inPlace := ["internal/abi.NoEscape"], unfollowed := true, recurses := true, plainKeys := false, apart := false, narrowed := true }
def FuguePlansUptoSaid : Prop := fuguePlansUptoRow.holds Try.pinned (OpenSpec.upto fuguePlansSpec)

/-- 'sealwaxlaw15.FugueStays', WHERE WHAT IT READS IS OF BULK AT MOST 1048576: true; the input reads as it did. -/
def fugueStaysUptoRow : OpenClaim := { program := "ytljciakgdpihdaa", sum := "6490a761112378562723337bf80b609af7d40bda76a311fde03bd053a9c8d883", func := "sealwax/sealwaxlaw15.FugueStays", spec := "fugueStays", inPlace := ["internal/abi.NoEscape"], unfollowed := true, recurses := true, plainKeys := false, apart := false, narrowed := true }
def FugueStaysUptoSaid : Prop := fugueStaysUptoRow.holds Try.pinned (OpenSpec.upto fugueStaysSpec)

/-- 'sealwaxlaw15.FugueClones', WHERE WHAT IT READS IS OF BULK AT MOST 1048576: true; the input reads as it did. -/
def fugueClonesUptoRow : OpenClaim := { program := "ytljciakgdpihdaa", sum := "6490a761112378562723337bf80b609af7d40bda76a311fde03bd053a9c8d883", func := "sealwax/sealwaxlaw15.FugueClones", spec := "fugueClones", inPlace := ["internal/abi.NoEscape"], unfollowed := true, recurses := true, plainKeys := false, apart := false, narrowed := true }
def FugueClonesUptoSaid : Prop := fugueClonesUptoRow.holds Try.pinned (OpenSpec.upto fugueClonesSpec)

/-- 'sealwaxlaw15.FugueNobody', WHERE WHAT IT READS IS OF BULK AT MOST 1048576: true; the input reads as it did. -/
def fugueNobodyUptoRow : OpenClaim := { program := "ytljciakgdpihdaa", sum := "6490a761112378562723337bf80b609af7d40bda76a311fde03bd053a9c8d883", func := "sealwax/sealwaxlaw15.FugueNobody", spec := "fugueNobody", inPlace := ["internal/abi.NoEscape"], unfollowed := true, recurses := true, plainKeys := false, apart := false, narrowed := true }
def FugueNobodyUptoSaid : Prop := fugueNobodyUptoRow.holds Try.pinned (OpenSpec.upto fugueNobodySpec)

end Rows
end Go.Proofs.Ytljciakgdpihdaa
