/-
  ScalarReads: for every input of so small a bulk the law returns true and leaves its arguments as they were; conditions: the second form's bulk. By an AI agent.
-/
import Derived.Test.YtecphnhdcphgbaaRows
import Derived.Test.YtecphnhdcphgbaaSL1
import Derived.Test.YtecphnhdcphgbaaNums
import Derived.Test.YtecphnhdcphgbaaClose
import Derived.SizedLaws
import Derived.JoinedCond
namespace Go.Proofs.Ytecphnhdcphgbaa.scalarReads
open Go Go.RowKit Go.ChangeShapes Go.WideShapes Go.ChangeAt
open Go.ChangeMaps (open_string shut_string)
theorem ownk : ownKnob Try.prog.godebug = none := by kernel_rfl
theorem laidOut : laidOutB Try.prog = true := by kernel_rfl
theorem cellsB : Try.prog.cellsOf 5 = 1 := by kernel_rfl
theorem readableB : Try.prog.readableRec 22 = true ∧ 22 < Try.prog.types.size := ⟨by kernel_rfl, of_decide_eq_true (by kernel_rfl)⟩
theorem bulk_lits {H : Type} : ∀ bs : List UInt8, Rows.uptoBulkAll (H := H) (bs.map fun b => .lit (.int .u8 (b.toNat : Int))) = bs.length
  | [] => by simp [Rows.uptoBulkAll]
  | b :: r => by
    rw [List.map_cons, Rows.uptoBulkAll, bulk_lits r]
    simp only [Rows.uptoBulk, List.length_cons]
    omega
theorem few {H : Type} {d : DataW H} {bs : List UInt8} (hk : Rows.uptoSmall H ([d] ++ []) = true) (hx : (d = .nil ∧ bs = []) ∨ ∃ sp, d = .slice (bs.map fun b => .lit (.int .u8 (b.toNat : Int))) sp) : bs.length ≤ 1048576 := by
  rcases hx with ⟨_, rfl⟩ | ⟨sp, rfl⟩
  · simp
  · have h := of_decide_eq_true hk
    simp only [List.append_nil, Rows.uptoBulkAll, Rows.uptoBulk, bulk_lits] at h
    omega
theorem contract (H : Type) (enc : TypeId × Value → H) (W : World) (base : Nat) (args : Array Value) (ds gs : List (DataW H)) (before : List MemPlace)
    (hval : ∀ (j : Nat) t v, Try.f3.params[j]? = some t → args[j]? = some v → Value.okWide Try.prog W .any base t v)
    (hW : DataW.Whole enc Try.prog Try.f3.params.toList Rows.scalarReadsSpec.vars false W args.toList ds gs before) (hk : Rows.uptoSmall H (ds ++ gs) = true) :
    Calls Try.prog 3 args W fun e W' => ∃ v, e = .returned v ∧ Rows.scalarReadsSpec.post enc Try.prog Try.f3 false true false false W args v W' := by
  have hW' := hW
  obtain ⟨p, q, hA0, hV, rfl, hfz, hnd⟩ := hW
  have hA : DataW.TrodAll enc Try.prog W 0 (fun _ => true) true Try.f3.params.toList args.toList ds p := hA0
  obtain ⟨rfl, rfl⟩ := trodVars_none hV
  rw [Try.params3] at hA hval
  obtain ⟨v0, vs0, d0, ds0, p0, q0, ha0, rfl, rfl, h0, r0⟩ := trodAll_cons hA
  obtain ⟨rfl, rfl, rfl⟩ := trodAll_nil r0
  obtain rfl : args = #[v0] := by cases args; simp_all
  obtain ⟨A0, c0, b0, rfl, rd0, dd0⟩ := open_bytes Try.underlying22 Try.underlying5 cellsB (hval 0 22 v0 rfl rfl) h0
  have l0 := few hk dd0
  refine (reads_law rd0 (by omega) W rfl).mono fun e W' ⟨he, hb⟩ => ?_
  subst he
  refine ⟨_, rfl, post_law (tb := 4) hW' rfl rfl (by kernel_rfl) Try.underlying4 laidOut ?_ hb⟩
  rw [Try.params3]
  intro t ht
  simp at ht
  subst ht
  exact readableB
set_option maxRecDepth 100000 in
theorem lifted (os : Os) (started : os.Started) (H : Type) (enc : TypeId × Value → H) (F : Stop.Interp) :
    ReturnsInHanded {} Try.checked os 3 .any ((Rows.OpenSpec.upto Rows.scalarReadsSpec).pre6 enc Try.prog Try.f3 Rows.scalarReadsUptoRow.domain false) (((Rows.OpenSpec.upto Rows.scalarReadsSpec).at F).post enc Try.prog Try.f3 false true false false) := by
  refine returnsInHanded_of_cond (C := Try.checked) (s := Rows.OpenSpec.upto Rows.scalarReadsSpec) (k := Rows.uptoSmall) rfl ownk started (by kernel_rfl) Try.func3
    (OpenSpec.witness (enc := enc) (C := Try.checked) (s := Rows.OpenSpec.upto Rows.scalarReadsSpec) (k := Rows.uptoSmall) rfl false ⟨#[], #[.slice none 0 0], []⟩ 8 (by kernel_rfl) (by kernel_rfl) (by kernel_rfl)
      (x := ([.nil], [], [])) (by kernel_rfl) rfl (by kernel_rfl)) ?_
  intro W base args ds gs before hval hW _ hk _
  exact contract H enc W base args ds gs before hval hW hk
theorem proved : Rows.ScalarReadsUptoSaid :=
  OpenClaim.holds_of_cond 3 Try.f3 rfl rfl rfl rfl rfl rfl rfl ⟨rfl, rfl, rfl, rfl, rfl⟩ rfl rfl rfl rfl rfl (by kernel_rfl) Try.func3 (by kernel_rfl)
    (of_decide_eq_true (by kernel_rfl)) (by unfold Func.isWrapper; first | (rw [if_pos (by decide +kernel)]; kernel_rfl) | (rw [if_neg (by decide +kernel)]; exact ⟨rfl, rfl⟩))
    (fun os started H enc _ F => lifted os started H enc F)
#print axioms proved
end Go.Proofs.Ytecphnhdcphgbaa.scalarReads
