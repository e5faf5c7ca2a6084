/-
  CaretBoxes: for every input the law returns true and leaves its arguments as they were. By an AI agent.
-/
import Derived.Test.YtejfdheiopejeaaRows
import Derived.Test.YtejfdheiopejeaaCl4
import Derived.Test.YtejfdheiopejeaaOp17
import Derived.Test.YtejfdheiopejeaaClose
import Derived.SizedLaws
import Derived.JoinedCond
namespace Go.Proofs.Ytejfdheiopejeaa.caretBoxes
open Go Go.RowKit Go.ChangeShapes Go.WideShapes Go.ChangeAt
open Go.ChangeMaps (open_string shut_string)
theorem ownk : ownKnob Try.prog.godebug = none := by kernel_rfl
theorem laidOut : laidOutB Try.prog = true := by kernel_rfl
theorem readableR : Try.prog.readableRec 38 = true ∧ 38 < Try.prog.types.size := ⟨by kernel_rfl, of_decide_eq_true (by kernel_rfl)⟩
theorem bulk_mem {H : Type} : ∀ (ds : List (DataW H)) (d : DataW H), d ∈ ds → Rows.uptoBulk d ≤ Rows.uptoBulkAll ds
  | [], d, h => nomatch h
  | e :: r, d, h => by
    rw [Rows.uptoBulkAll]
    rcases List.mem_cons.1 h with rfl | h
    · omega
    · have := bulk_mem r d h
      omega
theorem bulk_lits {H : Type} : ∀ bs : List UInt8, Rows.uptoBulkAll (H := H) (bs.map fun b => .lit (.int .u8 (b.toNat : Int))) = bs.length
  | [] => by simp [Rows.uptoBulkAll]
  | b :: r => by
    rw [List.map_cons, Rows.uptoBulkAll, bulk_lits r]
    simp only [Rows.uptoBulk, List.length_cons]
    omega
theorem few {H : Type} {ds : List (DataW H)} {d : DataW H} {bs : List UInt8} (hk : Rows.uptoSmall H (ds ++ []) = true) (hm : d ∈ ds) (hx : (d = .nil ∧ bs = []) ∨ ∃ sp, d = .slice (bs.map fun b => .lit (.int .u8 (b.toNat : Int))) sp) : bs.length ≤ 1048576 := by
  rw [List.append_nil] at hk
  have h := of_decide_eq_true hk
  have h2 := bulk_mem ds d hm
  rcases hx with ⟨_, rfl⟩ | ⟨sp, rfl⟩
  · simp
  · rw [Rows.uptoBulk, bulk_lits] at h2
    omega
theorem fewS {H : Type} {ds : List (DataW H)} {s : ByteArray} (hk : Rows.uptoSmall H (ds ++ []) = true) (hm : (DataW.lit (.string s.data.toList) : DataW H) ∈ ds) : s.size ≤ 1048576 := by
  rw [List.append_nil] at hk
  have h := of_decide_eq_true hk
  have h2 := bulk_mem ds _ hm
  rw [Rows.uptoBulk, Array.length_toList] at h2
  show s.data.size ≤ _
  omega
theorem fewR {H : Type} {ds : List (DataW H)} {s : ByteArray} {y1 y2 y3 : DataW H} (hk : Rows.uptoSmall H (ds ++ []) = true) (hm : (DataW.agg [.lit (.string s.data.toList), y1, y2, y3] : DataW H) ∈ ds) : s.size ≤ 1048576 := by
  rw [List.append_nil] at hk
  have h := of_decide_eq_true hk
  have h2 := bulk_mem ds _ hm
  rw [Rows.uptoBulk, Rows.uptoBulkAll, Rows.uptoBulk, Array.length_toList] at h2
  show s.data.size ≤ _
  omega
set_option maxRecDepth 100000 in
theorem contract (H : Type) (enc : TypeId × Value → H) (W : World) (base : Nat) (args : Array Value) (ds gs : List (DataW H)) (before : List MemPlace)
    (hval : ∀ (j : Nat) t v, Try.f5.params[j]? = some t → args[j]? = some v → Value.okWide Try.prog W .any base t v)
    (hW : DataW.Whole enc Try.prog Try.f5.params.toList Rows.caretBoxesSpec.vars false W args.toList ds gs before) (hk : Rows.uptoSmall H (ds ++ gs) = true) :
    Calls Try.prog 5 args W fun e W' => ∃ v, e = .returned v ∧ Rows.caretBoxesSpec.post enc Try.prog Try.f5 false true false false W args v W' := by
  have hW' := hW
  obtain ⟨p, q, hA0, hV, rfl, hfz, hnd⟩ := hW
  have hA : DataW.TrodAll enc Try.prog W 0 (fun _ => true) true Try.f5.params.toList args.toList ds p := hA0
  obtain ⟨rfl, rfl⟩ := trodVars_none hV
  rw [Try.params5] at hA hval
  obtain ⟨v0, vs0, d0, ds0, p0, q0, ha0, rfl, rfl, h0, r0⟩ := trodAll_cons hA
  obtain ⟨rfl, rfl, rfl⟩ := trodAll_nil r0
  obtain rfl : args = #[v0] := by cases args; simp_all
  obtain ⟨s0, i0a, i0b, i0c, y0, y0', y0'', rfl, rfl⟩ := open_range17 Try.underlying38 rfl rfl rfl rfl (by kernel_rfl) (by kernel_rfl) Try.underlying9 Try.underlying3 (hval 0 38 v0 rfl rfl) h0
  have l0 := fewR (s := s0) (y1 := y0) (y2 := y0') (y3 := y0'') hk (by simp)
  refine (caretboxes_law _ _ _ l0 W).mono fun e W' ⟨he, hb⟩ => ?_
  subst he
  refine ⟨_, rfl, post_law (tb := 4) hW' rfl rfl (by kernel_rfl) Try.underlying4 laidOut ?_ hb⟩
  rw [Try.params5]
  intro t ht
  simp at ht
  subst ht
  exact readableR
set_option maxRecDepth 100000 in
theorem lifted (os : Os) (started : os.Started) (H : Type) (enc : TypeId × Value → H) (F : Stop.Interp) :
    ReturnsInHanded {} Try.checked os 5 .any ((Rows.OpenSpec.upto Rows.caretBoxesSpec).pre6 enc Try.prog Try.f5 Rows.caretBoxesUptoRow.domain false) (((Rows.OpenSpec.upto Rows.caretBoxesSpec).at F).post enc Try.prog Try.f5 false true false false) := by
  refine returnsInHanded_of_cond (C := Try.checked) (s := Rows.OpenSpec.upto Rows.caretBoxesSpec) (k := Rows.uptoSmall) rfl ownk started (by kernel_rfl) Try.func5
    (OpenSpec.witness (enc := enc) (C := Try.checked) (s := Rows.OpenSpec.upto Rows.caretBoxesSpec) (k := Rows.uptoSmall) rfl false ⟨#[], #[.agg #[.string .empty, .int .i64 0, .int .i64 0, .int .i64 0]], []⟩ 8 (by kernel_rfl) (by kernel_rfl) (by kernel_rfl)
      (x := ([.agg [.lit (.string []), .lit (.int .i64 0), .lit (.int .i64 0), .lit (.int .i64 0)]], [], [])) (by kernel_rfl) rfl (by kernel_rfl)) ?_
  intro W base args ds gs before hval hW _ hk _
  exact contract H enc W base args ds gs before hval hW hk
theorem proved : Rows.CaretBoxesUptoSaid :=
  OpenClaim.holds_of_cond 5 Try.f5 rfl rfl rfl rfl rfl rfl rfl ⟨rfl, rfl, rfl, rfl, rfl⟩ rfl rfl rfl rfl rfl (by kernel_rfl) Try.func5 (by kernel_rfl)
    (of_decide_eq_true (by kernel_rfl)) (by unfold Func.isWrapper; first | (rw [if_pos (by decide +kernel)]; kernel_rfl) | (rw [if_neg (by decide +kernel)]; exact ⟨rfl, rfl⟩))
    (fun os started H enc _ F => lifted os started H enc F)
#print axioms proved
end Go.Proofs.Ytejfdheiopejeaa.caretBoxes
