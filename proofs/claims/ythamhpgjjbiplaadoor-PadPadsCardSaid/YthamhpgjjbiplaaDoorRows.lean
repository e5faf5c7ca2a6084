/-
  NARROWER THAN 'FOR EVERY INPUT', by the rows' own cells (each row's printed sentence says how): PadBuckets: laid · PadPads: laid · PadUnpads: laid · PadBack: laid · PadHides: laid.
  DERIVED. THE GIVEN ROWS OF THIS SEAT. 5 by the template 'for every input the law returns true; each argument reads behind the call as it read before'; 0 by the template 'total and deterministic' (their statements: YthamhpgjjbiplaaDoorTotals.lean).
  GIVEN WITH THE SEED: the statements are not yours to turn. If you find one false, say at which input.
  Laid BY PROGRAM, IN A SANDBOX (cutbox-rows.mjs): the forced cells as the released guide's own fill.sh prints them over the translation b5219ad42790d880… (all of the seat's roots in one cut). By AI agents, Wed Nov 11 2026. No macro, syntax, notation, axiom, sorry.
-/
import Derived.Test.YthamhpgjjbiplaaDoorChecked
import GoSem.Claim
import GoSem.ClaimJoined
import GoSem.ClaimMapViews
import Derived.JoinedTies
import Derived.KernelRfl
namespace Go.Proofs.YthamhpgjjbiplaaDoor
/- THE CELL 'sum', in the pinned program and in every row, IS THE sha256 OF THE DUMP (.gsa) THAT YthamhpgjjbiplaaDoorProg.lean LOADS. Nothing in Lean hashes anything: it is a label: what it is worth is what the hold of that sum in a sandbox is worth. -/
noncomputable def Tryd.pinned : Pinned := { name := "ythamhpgjjbiplaadoor", sum := "b5219ad42790d88005ec9e3007619e4e3ac78c09bbe9b98a156639154fa85c7d", checked := Tryd.checked }
namespace Rows
def none {H : Type} : Left H := { results := [], args := [] }

/- WHAT THE LISTED PACKAGE-LEVEL VARIABLES READ AS WHEN THE CALL BEGINS. Each datum BY PROGRAM (the guide's laid-datum.mjs) off the statement by which the dump's own 'gosem.cut.vars' lays the variable. In a bare row this is a premise. The card (YthamhpgjjbiplaaDoorCards.lean) ties it to the program's text. -/
def laid_sealwax_pad_buckets {H : Type} : DataW H := .agg [.lit (.int .i64 64), .lit (.int .i64 128), .lit (.int .i64 256), .lit (.int .i64 512), .lit (.int .i64 1024), .lit (.int .i64 2048), .lit (.int .i64 4096)]

/-- 'sealwaxlaw14.PadBuckets': WHATEVER THE INPUT: true; the input reads as it did. -/
def padBucketsSpec : ChangeSpec := { name := "padBuckets", fn := fun _ => fun
  | [d] => { results := [.lit (.bool true)], args := [d] }
  | _ => none }
def padBucketsRow : OpenClaim := { program := "ythamhpgjjbiplaadoor", sum := "b5219ad42790d88005ec9e3007619e4e3ac78c09bbe9b98a156639154fa85c7d", func := "sealwax/sealwaxlaw14.PadBuckets", spec := "padBuckets", named := ["sealwax/pad.buckets"], apart := false, laid := [("sealwax/pad.buckets", laid_sealwax_pad_buckets)] }
def PadBucketsSaid : Prop := padBucketsRow.holds Tryd.pinned (OpenSpec.ofChange padBucketsSpec)

/-- ITS FALSE NEIGHBOUR: 'it returns false'. Refute it at one input. -/
def padBucketsWrong : ChangeSpec := { name := "padBuckets", fn := fun _ => fun
  | [d] => { results := [.lit (.bool false)], args := [d] }
  | _ => none }
def PadBucketsWrongFalsely : Prop := padBucketsRow.holds Tryd.pinned (OpenSpec.ofChange padBucketsWrong)

/-- 'sealwaxlaw14.PadPads': WHATEVER THE INPUT: true; the input reads as it did. -/
def padPadsSpec : ChangeSpec := { name := "padPads", fn := fun _ => fun
  | [d] => { results := [.lit (.bool true)], args := [d] }
  | _ => none }
def padPadsRow : OpenClaim := { program := "ythamhpgjjbiplaadoor", sum := "b5219ad42790d88005ec9e3007619e4e3ac78c09bbe9b98a156639154fa85c7d", func := "sealwax/sealwaxlaw14.PadPads", spec := "padPads", named := ["sealwax/pad.buckets"], apart := false, laid := [("sealwax/pad.buckets", laid_sealwax_pad_buckets)] }
def PadPadsSaid : Prop := padPadsRow.holds Tryd.pinned (OpenSpec.ofChange padPadsSpec)

/-- ITS FALSE NEIGHBOUR: 'it returns false'. Refute it at one input. -/
def padPadsWrong : ChangeSpec := { name := "padPads", fn := fun _ => fun
  | [d] => { results := [.lit (.bool false)], args := [d] }
  | _ => none }
def PadPadsWrongFalsely : Prop := padPadsRow.holds Tryd.pinned (OpenSpec.ofChange padPadsWrong)

/-- 'sealwaxlaw14.PadUnpads': WHATEVER THE INPUT: true; the input reads as it did. -/
def padUnpadsSpec : ChangeSpec := { name := "padUnpads", fn := fun _ => fun
  | [d] => { results := [.lit (.bool true)], args := [d] }
  | _ => none }
def padUnpadsRow : OpenClaim := { program := "ythamhpgjjbiplaadoor", sum := "b5219ad42790d88005ec9e3007619e4e3ac78c09bbe9b98a156639154fa85c7d", func := "sealwax/sealwaxlaw14.PadUnpads", spec := "padUnpads", named := ["sealwax/pad.buckets"], apart := false, laid := [("sealwax/pad.buckets", laid_sealwax_pad_buckets)] }
def PadUnpadsSaid : Prop := padUnpadsRow.holds Tryd.pinned (OpenSpec.ofChange padUnpadsSpec)

/-- ITS FALSE NEIGHBOUR: 'it returns false'. Refute it at one input. -/
def padUnpadsWrong : ChangeSpec := { name := "padUnpads", fn := fun _ => fun
  | [d] => { results := [.lit (.bool false)], args := [d] }
  | _ => none }
def PadUnpadsWrongFalsely : Prop := padUnpadsRow.holds Tryd.pinned (OpenSpec.ofChange padUnpadsWrong)

/-- 'sealwaxlaw14.PadBack': WHATEVER THE INPUT: true; the input reads as it did. -/
def padBackSpec : ChangeSpec := { name := "padBack", fn := fun _ => fun
  | [d1, d2] => { results := [.lit (.bool true)], args := [d1, d2] }
  | _ => none }
def padBackRow : OpenClaim := { program := "ythamhpgjjbiplaadoor", sum := "b5219ad42790d88005ec9e3007619e4e3ac78c09bbe9b98a156639154fa85c7d", func := "sealwax/sealwaxlaw14.PadBack", spec := "padBack", named := ["sealwax/pad.buckets"], apart := false, laid := [("sealwax/pad.buckets", laid_sealwax_pad_buckets)] }
def PadBackSaid : Prop := padBackRow.holds Tryd.pinned (OpenSpec.ofChange padBackSpec)

/-- ITS FALSE NEIGHBOUR: 'it returns false'. Refute it at one input. -/
def padBackWrong : ChangeSpec := { name := "padBack", fn := fun _ => fun
  | [d1, d2] => { results := [.lit (.bool false)], args := [d1, d2] }
  | _ => none }
def PadBackWrongFalsely : Prop := padBackRow.holds Tryd.pinned (OpenSpec.ofChange padBackWrong)

/-- 'sealwaxlaw14.PadHides': WHATEVER THE INPUT: true; the input reads as it did. -/
def padHidesSpec : ChangeSpec := { name := "padHides", fn := fun _ => fun
  | [d1, d2] => { results := [.lit (.bool true)], args := [d1, d2] }
  | _ => none }
def padHidesRow : OpenClaim := { program := "ythamhpgjjbiplaadoor", sum := "b5219ad42790d88005ec9e3007619e4e3ac78c09bbe9b98a156639154fa85c7d", func := "sealwax/sealwaxlaw14.PadHides", spec := "padHides", named := ["sealwax/pad.buckets"], apart := false, laid := [("sealwax/pad.buckets", laid_sealwax_pad_buckets)] }
def PadHidesSaid : Prop := padHidesRow.holds Tryd.pinned (OpenSpec.ofChange padHidesSpec)

/-- ITS FALSE NEIGHBOUR: 'it returns false'. Refute it at one input. -/
def padHidesWrong : ChangeSpec := { name := "padHides", fn := fun _ => fun
  | [d1, d2] => { results := [.lit (.bool false)], args := [d1, d2] }
  | _ => none }
def PadHidesWrongFalsely : Prop := padHidesRow.holds Tryd.pinned (OpenSpec.ofChange padHidesWrong)

/- THE SECOND FORM. 'bulk': how many values and letters a reading holds, each counted each time it is reached (what is shared counts as often as it is met; a slice's spare places count too). A statement '..UptoSaid' is the law's where the arguments, and the package variables that the reading takes, are together of bulk at most 1048576: NARROWER than '..Said'. Prove '..Said' where nothing that the law and all that it calls make is longer than what came in: it says more and counts as full. Else prove '..UptoSaid'. A law counts once. -/
mutual
def uptoBulk {H : Type} : DataW H → Nat
  | .lit (.string bytes) => bytes.length + 1
  | .lit _ => 1
  | .nil => 1
  | .ptr d => uptoBulk d + 1
  | .slice elems spare => uptoBulkAll elems + uptoBulkAll spare + 1
  | .agg parts => uptoBulkAll parts + 1
  | .iface _ d => uptoBulk d + 1
  | .map entries => uptoBulkEntries entries + 1
  | .held _ => 1
def uptoBulkAll {H : Type} : List (DataW H) → Nat
  | [] => 0
  | d :: r => uptoBulk d + uptoBulkAll r
def uptoBulkEntries {H : Type} : List (Lit × DataW H) → Nat
  | [] => 0
  | x :: r => uptoBulkEntry x + uptoBulkEntries r
def uptoBulkEntry {H : Type} : Lit × DataW H → Nat
  | (.string bytes, d) => bytes.length + uptoBulk d + 1
  | (_, d) => uptoBulk d + 1
 end
def uptoSmall : (H : Type) → List (DataW H) → Bool := fun _ ds => decide (uptoBulkAll ds ≤ 1048576)
def OpenSpec.upto (s : _root_.Go.ChangeSpec) : _root_.Go.OpenSpec := { _root_.Go.OpenSpec.ofChange s with cond := some uptoSmall }

/-- 'sealwaxlaw14.PadBuckets', WHERE WHAT IT READS IS OF BULK AT MOST 1048576: true; the input reads as it did. -/
def padBucketsUptoRow : OpenClaim := { program := "ythamhpgjjbiplaadoor", sum := "b5219ad42790d88005ec9e3007619e4e3ac78c09bbe9b98a156639154fa85c7d", func := "sealwax/sealwaxlaw14.PadBuckets", spec := "padBuckets", named := ["sealwax/pad.buckets"], apart := false, laid := [("sealwax/pad.buckets", laid_sealwax_pad_buckets)], narrowed := true }
def PadBucketsUptoSaid : Prop := padBucketsUptoRow.holds Tryd.pinned (OpenSpec.upto padBucketsSpec)

/-- 'sealwaxlaw14.PadPads', WHERE WHAT IT READS IS OF BULK AT MOST 1048576: true; the input reads as it did. -/
def padPadsUptoRow : OpenClaim := { program := "ythamhpgjjbiplaadoor", sum := "b5219ad42790d88005ec9e3007619e4e3ac78c09bbe9b98a156639154fa85c7d", func := "sealwax/sealwaxlaw14.PadPads", spec := "padPads", named := ["sealwax/pad.buckets"], apart := false, laid := [("sealwax/pad.buckets", laid_sealwax_pad_buckets)], narrowed := true }
def PadPadsUptoSaid : Prop := padPadsUptoRow.holds Tryd.pinned (OpenSpec.upto padPadsSpec)

/-- 'sealwaxlaw14.PadUnpads', WHERE WHAT IT READS IS OF BULK AT MOST 1048576: true; the input reads as it did. -/
def padUnpadsUptoRow : OpenClaim := { program := "ythamhpgjjbiplaadoor", sum := "b5219ad42790d88005ec9e3007619e4e3ac78c09bbe9b98a156639154fa85c7d", func := "sealwax/sealwaxlaw14.PadUnpads", spec := "padUnpads", named := ["sealwax/pad.buckets"], apart := false, laid := [("sealwax/pad.buckets", laid_sealwax_pad_buckets)], narrowed := true }
def PadUnpadsUptoSaid : Prop := padUnpadsUptoRow.holds Tryd.pinned (OpenSpec.upto padUnpadsSpec)

/-- 'sealwaxlaw14.PadBack', WHERE WHAT IT READS IS OF BULK AT MOST 1048576: true; the input reads as it did. -/
def padBackUptoRow : OpenClaim := { program := "ythamhpgjjbiplaadoor", sum := "b5219ad42790d88005ec9e3007619e4e3ac78c09bbe9b98a156639154fa85c7d", func := "sealwax/sealwaxlaw14.PadBack", spec := "padBack", named := ["sealwax/pad.buckets"], apart := false, laid := [("sealwax/pad.buckets", laid_sealwax_pad_buckets)], narrowed := true }
def PadBackUptoSaid : Prop := padBackUptoRow.holds Tryd.pinned (OpenSpec.upto padBackSpec)

/-- 'sealwaxlaw14.PadHides', WHERE WHAT IT READS IS OF BULK AT MOST 1048576: true; the input reads as it did. -/
def padHidesUptoRow : OpenClaim := { program := "ythamhpgjjbiplaadoor", sum := "b5219ad42790d88005ec9e3007619e4e3ac78c09bbe9b98a156639154fa85c7d", func := "sealwax/sealwaxlaw14.PadHides", spec := "padHides", named := ["sealwax/pad.buckets"], apart := false, laid := [("sealwax/pad.buckets", laid_sealwax_pad_buckets)], narrowed := true }
def PadHidesUptoSaid : Prop := padHidesUptoRow.holds Tryd.pinned (OpenSpec.upto padHidesSpec)

end Rows
end Go.Proofs.YthamhpgjjbiplaaDoor
