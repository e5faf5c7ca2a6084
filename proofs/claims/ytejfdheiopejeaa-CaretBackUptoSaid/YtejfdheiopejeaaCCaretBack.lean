/-
  CaretBack: for every input the law returns true and leaves its arguments as they were. By an AI agent.
-/
import Derived.Test.YtejfdheiopejeaaRows
import Derived.Test.YtejfdheiopejeaaCl6
import Derived.Test.YtejfdheiopejeaaClose
import Derived.SizedLaws
import Derived.JoinedCond
namespace Go.Proofs.Ytejfdheiopejeaa.caretBack
open Go Go.RowKit Go.ChangeShapes Go.WideShapes Go.ChangeAt
open Go.ChangeMaps (open_string shut_string)
theorem ownk : ownKnob Try.prog.godebug = none := by kernel_rfl
theorem laidOut : laidOutB Try.prog = true := by kernel_rfl
theorem readableS : Try.prog.readableRec 9 = true ∧ 9 < Try.prog.types.size := ⟨by kernel_rfl, of_decide_eq_true (by kernel_rfl)⟩
theorem readableI : Try.prog.readableRec 3 = true ∧ 3 < Try.prog.types.size := ⟨by kernel_rfl, of_decide_eq_true (by kernel_rfl)⟩
theorem bulk_mem {H : Type} : ∀ (ds : List (DataW H)) (d : DataW H), d ∈ ds → Rows.uptoBulk d ≤ Rows.uptoBulkAll ds
  | [], d, h => nomatch h
  | e :: r, d, h => by
    rw [Rows.uptoBulkAll]
    rcases List.mem_cons.1 h with rfl | h
    · omega
    · have := bulk_mem r d h
      omega
theorem bulk_lits {H : Type} : ∀ bs : List UInt8, Rows.uptoBulkAll (H := H) (bs.map fun b => .lit (.int .u8 (b.toNat : Int))) = bs.length
  | [] => by simp [Rows.uptoBulkAll]
  | b :: r => by
    rw [List.map_cons, Rows.uptoBulkAll, bulk_lits r]
    simp only [Rows.uptoBulk, List.length_cons]
    omega
theorem few {H : Type} {ds : List (DataW H)} {d : DataW H} {bs : List UInt8} (hk : Rows.uptoSmall H (ds ++ []) = true) (hm : d ∈ ds) (hx : (d = .nil ∧ bs = []) ∨ ∃ sp, d = .slice (bs.map fun b => .lit (.int .u8 (b.toNat : Int))) sp) : bs.length ≤ 1048576 := by
  rw [List.append_nil] at hk
  have h := of_decide_eq_true hk
  have h2 := bulk_mem ds d hm
  rcases hx with ⟨_, rfl⟩ | ⟨sp, rfl⟩
  · simp
  · rw [Rows.uptoBulk, bulk_lits] at h2
    omega
theorem fewS {H : Type} {ds : List (DataW H)} {s : ByteArray} (hk : Rows.uptoSmall H (ds ++ []) = true) (hm : (DataW.lit (.string s.data.toList) : DataW H) ∈ ds) : s.size ≤ 1048576 := by
  rw [List.append_nil] at hk
  have h := of_decide_eq_true hk
  have h2 := bulk_mem ds _ hm
  rw [Rows.uptoBulk, Array.length_toList] at h2
  show s.data.size ≤ _
  omega
theorem fewR {H : Type} {ds : List (DataW H)} {s : ByteArray} {y1 y2 y3 : DataW H} (hk : Rows.uptoSmall H (ds ++ []) = true) (hm : (DataW.agg [.lit (.string s.data.toList), y1, y2, y3] : DataW H) ∈ ds) : s.size ≤ 1048576 := by
  rw [List.append_nil] at hk
  have h := of_decide_eq_true hk
  have h2 := bulk_mem ds _ hm
  rw [Rows.uptoBulk, Rows.uptoBulkAll, Rows.uptoBulk, Array.length_toList] at h2
  show s.data.size ≤ _
  omega
set_option maxRecDepth 100000 in
theorem contract (H : Type) (enc : TypeId × Value → H) (W : World) (base : Nat) (args : Array Value) (ds gs : List (DataW H)) (before : List MemPlace)
    (hval : ∀ (j : Nat) t v, Try.f6.params[j]? = some t → args[j]? = some v → Value.okWide Try.prog W .any base t v)
    (hW : DataW.Whole enc Try.prog Try.f6.params.toList Rows.caretBackSpec.vars false W args.toList ds gs before) (hk : Rows.uptoSmall H (ds ++ gs) = true) :
    Calls Try.prog 6 args W fun e W' => ∃ v, e = .returned v ∧ Rows.caretBackSpec.post enc Try.prog Try.f6 false true false false W args v W' := by
  have hW' := hW
  obtain ⟨p, q, hA0, hV, rfl, hfz, hnd⟩ := hW
  have hA : DataW.TrodAll enc Try.prog W 0 (fun _ => true) true Try.f6.params.toList args.toList ds p := hA0
  obtain ⟨rfl, rfl⟩ := trodVars_none hV
  rw [Try.params6] at hA hval
  obtain ⟨v0, vs0, d0, ds0, p0, q0, ha0, rfl, rfl, h0, r0⟩ := trodAll_cons hA
  obtain ⟨v1, vs1, d1, ds1, p1, q1, ha1, rfl, rfl, h1, r1⟩ := trodAll_cons r0
  obtain ⟨rfl, rfl, rfl⟩ := trodAll_nil r1
  subst ha1
  obtain rfl : args = #[v0, v1] := by cases args; simp_all
  obtain ⟨s0, rfl, rfl, rfl, ws0⟩ := open_string Try.underlying9 (hval 0 9 v0 rfl rfl) h0
  have l0 := fewS (s := s0) hk (by simp)
  obtain ⟨i1, rfl, rfl, rfl, l1⟩ := open_int Try.underlying3 (hval 1 3 v1 rfl rfl) h1
  refine (caretback_law _ l0 W).mono fun e W' ⟨he, hb⟩ => ?_
  subst he
  refine ⟨_, rfl, post_law (tb := 4) hW' rfl rfl (by kernel_rfl) Try.underlying4 laidOut ?_ hb⟩
  rw [Try.params6]
  intro t ht
  simp at ht
  rcases ht with rfl | rfl
  · exact readableS
  · exact readableI
set_option maxRecDepth 100000 in
theorem lifted (os : Os) (started : os.Started) (H : Type) (enc : TypeId × Value → H) (F : Stop.Interp) :
    ReturnsInHanded {} Try.checked os 6 .any ((Rows.OpenSpec.upto Rows.caretBackSpec).pre6 enc Try.prog Try.f6 Rows.caretBackUptoRow.domain false) (((Rows.OpenSpec.upto Rows.caretBackSpec).at F).post enc Try.prog Try.f6 false true false false) := by
  refine returnsInHanded_of_cond (C := Try.checked) (s := Rows.OpenSpec.upto Rows.caretBackSpec) (k := Rows.uptoSmall) rfl ownk started (by kernel_rfl) Try.func6
    (OpenSpec.witness (enc := enc) (C := Try.checked) (s := Rows.OpenSpec.upto Rows.caretBackSpec) (k := Rows.uptoSmall) rfl false ⟨#[], #[.string .empty, .int .i64 0], []⟩ 8 (by kernel_rfl) (by kernel_rfl) (by kernel_rfl)
      (x := ([.lit (.string []), .lit (.int .i64 0)], [], [])) (by kernel_rfl) rfl (by kernel_rfl)) ?_
  intro W base args ds gs before hval hW _ hk _
  exact contract H enc W base args ds gs before hval hW hk
theorem proved : Rows.CaretBackUptoSaid :=
  OpenClaim.holds_of_cond 6 Try.f6 rfl rfl rfl rfl rfl rfl rfl ⟨rfl, rfl, rfl, rfl, rfl⟩ rfl rfl rfl rfl rfl (by kernel_rfl) Try.func6 (by kernel_rfl)
    (of_decide_eq_true (by kernel_rfl)) (by unfold Func.isWrapper; first | (rw [if_pos (by decide +kernel)]; kernel_rfl) | (rw [if_neg (by decide +kernel)]; exact ⟨rfl, rfl⟩))
    (fun os started H enc _ F => lifted os started H enc F)
#print axioms proved
end Go.Proofs.Ytejfdheiopejeaa.caretBack
