/-
  A number built of one word, of two. By an AI agent.
-/
import Derived.Test.YtckdifcelgooeaaDoorTA
namespace Go.Proofs.YtckdifcelgooeaaDoor
open Go Go.RowKit
set_option maxRecDepth 20000
theorem words2 {j c z : Nat} (hj : j < 18446744073709551616) (hc : c < 18446744073709551616) (hz : z = j + 18446744073709551616 * c) : wd z 0 = j ∧ wd z 1 = c ∧ wd z 2 = 0 ∧ wd z 3 = 0 := by
  subst hz
  refine ⟨?_, ?_, ?_, ?_⟩ <;> unfold wd dgt
  · rw [Nat.pow_zero, Nat.div_one]; omega
  · rw [Nat.pow_one]; omega
  · rw [Nat.div_eq_of_lt (by omega), Nat.zero_mod]
  · rw [Nat.div_eq_of_lt (by omega), Nat.zero_mod]
theorem built_N1 (i : Int) : Tryd.prog.built 24 [(0, .int .u64 i)] = some #[.int .u64 i, .int .u64 0, .int .u64 0, .int .u64 0] := by kernel_rfl
theorem built_N2 (i k : Int) : Tryd.prog.built 24 [(0, .int .u64 i), (1, .int .u64 k)] = some #[.int .u64 i, .int .u64 k, .int .u64 0, .int .u64 0] := by kernel_rfl
section
variable {ops : Array Oper} {rest : List Oper} {a : Act} {w : World} {Q : Exit → Act → World → Prop} {dst : Option Nat} {tp : TypeId} {ps : String} {af : Array Edge} {s s' : Operand} {z j c : Nat}
theorem N2_to (h1 : a.eval s = .int .u64 (j : Int)) (h2 : a.eval s' = .int .u64 (c : Int)) (hj : j < 18446744073709551616) (hc : c < 18446744073709551616) (hz : z = j + 18446744073709551616 * c) (h : wpList Tryd.prog ops Q rest (a.put dst (nv z)) w) : wpList Tryd.prog ops Q (⟨dst, .build 24 #[(0, s), (1, s')], tp, ps, af, none⟩ :: rest) a w := by
  have hb := run_build (P := Tryd.prog) w 24 #[(0, .int .u64 (j : Int)), (1, .int .u64 (c : Int))] _ (built_N2 j c)
  obtain ⟨w0, w1, w2, w3⟩ := words2 hj hc hz
  have e : nv z = .agg #[.int .u64 (j : Int), .int .u64 (c : Int), .int .u64 0, .int .u64 0] := by unfold nv; rw [w0, w1, w2, w3]; rfl
  rw [e] at h
  refine wpList_plain rfl fun K hK => ?_
  unfold Oper.wp execOp
  simp only [List.map_toArray, List.map_cons, List.map_nil, h1, h2, Sem.run_bind, hb, Result.andThen_ok, Sem.run_pure]
  exact hK _ _ h
theorem N1_to (h1 : a.eval s = .int .u64 (z : Int)) (hj : z < 18446744073709551616) (h : wpList Tryd.prog ops Q rest (a.put dst (nv z)) w) : wpList Tryd.prog ops Q (⟨dst, .build 24 #[(0, s)], tp, ps, af, none⟩ :: rest) a w := by
  have hb := run_build (P := Tryd.prog) w 24 #[(0, .int .u64 (z : Int))] _ (built_N1 z)
  obtain ⟨w0, w1, w2, w3⟩ := words2 (j := z) (c := 0) (z := z) hj (by decide) (by omega)
  have e : nv z = .agg #[.int .u64 (z : Int), .int .u64 0, .int .u64 0, .int .u64 0] := by unfold nv; rw [w0, w1, w2, w3]; rfl
  rw [e] at h
  refine wpList_plain rfl fun K hK => ?_
  unfold Oper.wp execOp
  simp only [List.map_toArray, List.map_cons, List.map_nil, h1, Sem.run_bind, hb, Result.andThen_ok, Sem.run_pure]
  exact hK _ _ h
end
end Go.Proofs.YtckdifcelgooeaaDoor
