/-
  SuiteApart: for every input the law returns true and leaves its arguments as they were. By an AI agent.
-/
import Derived.Test.YtdddcgkgellbgabRows
import Derived.Test.YtdddcgkgellbgabSw3
import Derived.Test.YtdddcgkgellbgabClose
import Derived.SizedLaws
import Derived.JoinedCond
namespace Go.Proofs.Ytdddcgkgellbgab.suiteApart
open Go Go.RowKit Go.ChangeShapes Go.WideShapes Go.ChangeAt
open Go.ChangeMaps (open_string shut_string)
theorem ownk : ownKnob Try.prog.godebug = none := by kernel_rfl
theorem laidOut : laidOutB Try.prog = true := by kernel_rfl
theorem cellsB : Try.prog.cellsOf 5 = 1 := by kernel_rfl
theorem bytesB : Try.prog.bytesOf 5 = 1 := by kernel_rfl
theorem readableB : Try.prog.readableRec 31 = true ∧ 31 < Try.prog.types.size := ⟨by kernel_rfl, of_decide_eq_true (by kernel_rfl)⟩
theorem readableI : Try.prog.readableRec 3 = true ∧ 3 < Try.prog.types.size := ⟨by kernel_rfl, of_decide_eq_true (by kernel_rfl)⟩
theorem bulk_mem {H : Type} : ∀ (ds : List (DataW H)) (d : DataW H), d ∈ ds → Rows.uptoBulk d ≤ Rows.uptoBulkAll ds
  | [], d, h => nomatch h
  | e :: r, d, h => by
    rw [Rows.uptoBulkAll]
    rcases List.mem_cons.1 h with rfl | h
    · omega
    · have := bulk_mem r d h
      omega
theorem bulk_lits {H : Type} : ∀ bs : List UInt8, Rows.uptoBulkAll (H := H) (bs.map fun b => .lit (.int .u8 (b.toNat : Int))) = bs.length
  | [] => by simp [Rows.uptoBulkAll]
  | b :: r => by
    rw [List.map_cons, Rows.uptoBulkAll, bulk_lits r]
    simp only [Rows.uptoBulk, List.length_cons]
    omega
theorem few {H : Type} {ds : List (DataW H)} {d : DataW H} {bs : List UInt8} (hk : Rows.uptoSmall H (ds ++ []) = true) (hm : d ∈ ds) (hx : (d = .nil ∧ bs = []) ∨ ∃ sp, d = .slice (bs.map fun b => .lit (.int .u8 (b.toNat : Int))) sp) : bs.length ≤ 1048576 := by
  rw [List.append_nil] at hk
  have h := of_decide_eq_true hk
  have h2 := bulk_mem ds d hm
  rcases hx with ⟨_, rfl⟩ | ⟨sp, rfl⟩
  · simp
  · rw [Rows.uptoBulk, bulk_lits] at h2
    omega
theorem fewS {H : Type} {ds : List (DataW H)} {s : ByteArray} (hk : Rows.uptoSmall H (ds ++ []) = true) (hm : (DataW.lit (.string s.data.toList) : DataW H) ∈ ds) : s.size ≤ 1048576 := by
  rw [List.append_nil] at hk
  have h := of_decide_eq_true hk
  have h2 := bulk_mem ds _ hm
  rw [Rows.uptoBulk, Array.length_toList] at h2
  show s.data.size ≤ _
  omega
theorem fewR {H : Type} {ds : List (DataW H)} {s : ByteArray} {y1 y2 y3 : DataW H} (hk : Rows.uptoSmall H (ds ++ []) = true) (hm : (DataW.agg [.lit (.string s.data.toList), y1, y2, y3] : DataW H) ∈ ds) : s.size ≤ 1048576 := by
  rw [List.append_nil] at hk
  have h := of_decide_eq_true hk
  have h2 := bulk_mem ds _ hm
  rw [Rows.uptoBulk, Rows.uptoBulkAll, Rows.uptoBulk, Array.length_toList] at h2
  show s.data.size ≤ _
  omega
set_option maxRecDepth 100000 in
theorem contract (H : Type) (enc : TypeId × Value → H) (W : World) (base : Nat) (args : Array Value) (ds gs : List (DataW H)) (before : List MemPlace)
    (hval : ∀ (j : Nat) t v, Try.f4.params[j]? = some t → args[j]? = some v → Value.okWide Try.prog W .any base t v)
    (hW : DataW.Whole enc Try.prog Try.f4.params.toList Rows.suiteApartSpec.vars false W args.toList ds gs before) (hk : Rows.uptoSmall H (ds ++ gs) = true) :
    Calls Try.prog 4 args W fun e W' => ∃ v, e = .returned v ∧ Rows.suiteApartSpec.post enc Try.prog Try.f4 false true false false W args v W' := by
  have hW' := hW
  obtain ⟨p, q, hA0, hV, rfl, hfz, hnd⟩ := hW
  have hA : DataW.TrodAll enc Try.prog W 0 (fun _ => true) true Try.f4.params.toList args.toList ds p := hA0
  obtain ⟨rfl, rfl⟩ := trodVars_none hV
  rw [Try.params4] at hA hval
  obtain ⟨v0, vs0, d0, ds0, p0, q0, ha0, rfl, rfl, h0, r0⟩ := trodAll_cons hA
  obtain ⟨v1, vs1, d1, ds1, p1, q1, ha1, rfl, rfl, h1, r1⟩ := trodAll_cons r0
  obtain ⟨v2, vs2, d2, ds2, p2, q2, ha2, rfl, rfl, h2, r2⟩ := trodAll_cons r1
  obtain ⟨v3, vs3, d3, ds3, p3, q3, ha3, rfl, rfl, h3, r3⟩ := trodAll_cons r2
  obtain ⟨v4, vs4, d4, ds4, p4, q4, ha4, rfl, rfl, h4, r4⟩ := trodAll_cons r3
  obtain ⟨rfl, rfl, rfl⟩ := trodAll_nil r4
  subst ha4
  subst ha3
  subst ha2
  subst ha1
  obtain rfl : args = #[v0, v1, v2, v3, v4] := by cases args; simp_all
  obtain ⟨A0, c0, b0, rfl, rd0, dd0⟩ := open_bytes Try.underlying31 Try.underlying5 cellsB (hval 0 31 v0 rfl rfl) h0
  have l0 := few hk (by simp) dd0
  obtain ⟨A1, c1, b1, rfl, rd1, dd1⟩ := open_bytes Try.underlying31 Try.underlying5 cellsB (hval 1 31 v1 rfl rfl) h1
  have l1 := few hk (by simp) dd1
  obtain ⟨A2, c2, b2, rfl, rd2, dd2⟩ := open_bytes Try.underlying31 Try.underlying5 cellsB (hval 2 31 v2 rfl rfl) h2
  have l2 := few hk (by simp) dd2
  obtain ⟨A3, c3, b3, rfl, rd3, dd3⟩ := open_bytes Try.underlying31 Try.underlying5 cellsB (hval 3 31 v3 rfl rfl) h3
  have l3 := few hk (by simp) dd3
  obtain ⟨i4, rfl, rfl, rfl, l4⟩ := open_int Try.underlying3 (hval 4 3 v4 rfl rfl) h4
  refine (apart_walk l4 W rd0 rd1 rd2 rd3 l0 l1 l2 l3).mono fun e W' ⟨he, hb⟩ => ?_
  subst he
  refine ⟨_, rfl, post_law (tb := 4) hW' rfl rfl (by kernel_rfl) Try.underlying4 laidOut ?_ hb⟩
  rw [Try.params4]
  intro t ht
  simp at ht
  rcases ht with rfl | rfl
  · exact readableB
  · exact readableI
set_option maxRecDepth 100000 in
theorem lifted (os : Os) (started : os.Started) (H : Type) (enc : TypeId × Value → H) (F : Stop.Interp) :
    ReturnsInHanded {} Try.checked os 4 .any ((Rows.OpenSpec.upto Rows.suiteApartSpec).pre6 enc Try.prog Try.f4 Rows.suiteApartUptoRow.domain false) (((Rows.OpenSpec.upto Rows.suiteApartSpec).at F).post enc Try.prog Try.f4 false true false false) := by
  refine returnsInHanded_of_cond (C := Try.checked) (s := Rows.OpenSpec.upto Rows.suiteApartSpec) (k := Rows.uptoSmall) rfl ownk started (by kernel_rfl) Try.func4
    (OpenSpec.witness (enc := enc) (C := Try.checked) (s := Rows.OpenSpec.upto Rows.suiteApartSpec) (k := Rows.uptoSmall) rfl false ⟨#[], #[.slice none 0 0, .slice none 0 0, .slice none 0 0, .slice none 0 0, .int .i64 0], []⟩ 8 (by kernel_rfl) (by kernel_rfl) (by kernel_rfl)
      (x := ([.nil, .nil, .nil, .nil, .lit (.int .i64 0)], [], [])) (by kernel_rfl) rfl (by kernel_rfl)) ?_
  intro W base args ds gs before hval hW _ hk _
  exact contract H enc W base args ds gs before hval hW hk
theorem proved : Rows.SuiteApartUptoSaid :=
  OpenClaim.holds_of_cond 4 Try.f4 rfl rfl rfl rfl rfl rfl rfl ⟨rfl, rfl, rfl, rfl, rfl⟩ rfl rfl rfl rfl rfl (by kernel_rfl) Try.func4 (by kernel_rfl)
    (of_decide_eq_true (by kernel_rfl)) (by unfold Func.isWrapper; first | (rw [if_pos (by decide +kernel)]; kernel_rfl) | (rw [if_neg (by decide +kernel)]; exact ⟨rfl, rfl⟩))
    (fun os started H enc _ F => lifted os started H enc F)
#print axioms proved
end Go.Proofs.Ytdddcgkgellbgab.suiteApart
