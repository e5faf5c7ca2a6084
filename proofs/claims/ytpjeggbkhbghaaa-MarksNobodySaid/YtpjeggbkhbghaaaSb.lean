/-
  Slices of bytes (of layer 6's take). By an AI agent.
-/
import Derived.Test.YtpjeggbkhbghaaaMA
import Derived.Deep.MidRow
namespace Go.Proofs.Ytpjeggbkhbghaaa
open Go Go.RowKit
set_option maxRecDepth 20000
/-- Where a slice of a slice lies. -/
def subA (A : Option Addr) (c l : Nat) : Option Addr := if c = l then A else A.map (·.add l)
theorem Rd.sub_ {w : World} {B c l n : Nat} {A : Option Addr} {bs : List UInt8} (h : Rd w B A c bs) (hl : l + n ≤ bs.length) : Rd w B (subA A c l) (c - l) ((bs.drop l).take n) := by
  have hlen : ((bs.drop l).take n).length = n := by rw [List.length_take, List.length_drop]; omega
  have hcap := h.cap
  unfold subA
  by_cases hc : c = l
  · rw [if_pos hc]
    have h0 : n = 0 := by omega
    subst h0
    exact ⟨by rw [hlen]; omega, fun _ => ⟨by simp, by omega⟩, fun hne => absurd (by simp) hne⟩
  · rw [if_neg hc]
    refine ⟨by rw [hlen]; omega, fun hA => ?_, fun hne => ?_⟩
    · obtain ⟨e1, e2⟩ := h.nil (by simpa using hA)
      rw [e1] at hl
      simp only [List.length_nil] at hl
      omega
    · have hn : 0 < n := by
        refine Nat.pos_of_ne_zero fun h0 => hne ?_
        rw [h0, List.take_zero]
      obtain ⟨b, o, rfl, hb, hcell⟩ := h.some_ (by rintro rfl; simp at hl; omega)
      refine ⟨b, o + l, by simp [Addr.add_mid], hb, fun k hk => ?_⟩
      rw [hlen] at hk
      rw [Nat.add_assoc, hcell (l + k) (by omega)]
      unfold nth
      rw [List.getElem?_take, if_pos hk, List.getElem?_drop]
theorem Rd.drop_ {w : World} {B c l : Nat} {A : Option Addr} {bs : List UInt8} (h : Rd w B A c bs) (hl : l ≤ bs.length) : Rd w B (subA A c l) (c - l) (bs.drop l) := by
  have h1 := h.sub_ (l := l) (n := bs.length - l) (by omega)
  rwa [List.take_of_length_le (by rw [List.length_drop]; omega)] at h1
/-- No part of a block. -/
def Off (g : Nat) (A : Option Addr) : Prop := ∀ ad, A = some ad → ad.block ≠ g
theorem Addr.add_block (ad : Addr) (l : Nat) : (ad.add l).block = ad.block := by unfold Addr.add; split <;> rfl
theorem Off.sub {g c l : Nat} {A : Option Addr} (h : Off g A) : Off g (subA A c l) := by
  unfold subA
  split
  · exact h
  · intro ad had
    cases A with
    | none => simp at had
    | some a0 =>
      simp only [Option.map_some, Option.some.injEq] at had
      rw [← had, Addr.add_block]
      exact h a0 rfl
theorem infoU8 : (Try.prog.info? 5).map (fun i => (i.zero, i.size, i.bytes)) = some (some (.int .u8 0), 1, 1) := by kernel_rfl
theorem size_u8 (w : World) : (sizeOf 5).run Try.prog w = .ok 1 w := by
  obtain ⟨i0, hi0, hz0, hz1, hz2⟩ := info_parts infoU8
  simp [sizeOf, typeInfo, hi0, hz1]
theorem slice_run (w : World) {A : Option Addr} {n c l h : Nat} (h1 : l ≤ h) (h2 : h ≤ c) : (Instr.slice 100 (.slice A n c) (some (.int .i64 (l : Int))) (some (.int .i64 (h : Int))) none).run Try.prog w = .ok (.slice (subA A c l) (h - l) (c - l)) w := by
  have k1 : (0 : Int) ≤ (l : Int) ∧ (l : Int) ≤ (h : Int) := by omega
  have k2 : (0 : Int) ≤ (h : Int) ∧ (h : Int) ≤ (c : Int) := by omega
  unfold Instr.slice Instr.sliceBounds Instr.sliceBound subA
  simp [Sem.run_bind, asIntOf, run_underlying Try.underlying100 w, size_u8 w, h1, h2]
theorem slice_run_lo (w : World) {A : Option Addr} {n c l : Nat} (h1 : l ≤ n) : (Instr.slice 100 (.slice A n c) (some (.int .i64 (l : Int))) none none).run Try.prog w = .ok (.slice (subA A c l) (n - l) (c - l)) w := by
  unfold Instr.slice Instr.sliceBounds Instr.sliceBound subA
  simp [Sem.run_bind, asIntOf, run_underlying Try.underlying100 w, size_u8 w, h1]
theorem slice_op {o : Oper} {a : Act} {w : World} {x lo hi : Operand} {A : Option Addr} {n c l h : Nat} (ho : o.op = .slice 100 x (some lo) (some hi) none) (e1 : a.eval x = .slice A n c) (e2 : a.eval lo = .int .i64 (l : Int)) (e3 : a.eval hi = .int .i64 (h : Int)) (h1 : l ≤ h) (h2 : h ≤ c) :
    (execOp a.eval o).run Try.prog w = .ok (.value (.slice (subA A c l) (h - l) (c - l))) w := by
  unfold execOp
  simp only [ho, e1, e2, e3, Option.map_some, Option.map_none, Instr.sliceAt, Sem.run_bind, run_underlying Try.underlying100 w, slice_run w h1 h2, Result.andThen_ok, Sem.run_pure]
theorem slice_op_n {o : Oper} {a : Act} {w : World} {x lo hi : Operand} {A : Option Addr} {n c l h m : Nat} (ho : o.op = .slice 100 x (some lo) (some hi) none) (e1 : a.eval x = .slice A n c) (e2 : a.eval lo = .int .i64 (l : Int)) (e3 : a.eval hi = .int .i64 (h : Int)) (h1 : l ≤ h) (h2 : h ≤ c) (hm : h - l = m) :
    (execOp a.eval o).run Try.prog w = .ok (.value (.slice (subA A c l) m (c - l))) w := by
  rw [← hm]
  exact slice_op ho e1 e2 e3 h1 h2
theorem slice_op_lo {o : Oper} {a : Act} {w : World} {x lo : Operand} {A : Option Addr} {n c l : Nat} (ho : o.op = .slice 100 x (some lo) none none) (e1 : a.eval x = .slice A n c) (e2 : a.eval lo = .int .i64 (l : Int)) (h1 : l ≤ n) :
    (execOp a.eval o).run Try.prog w = .ok (.value (.slice (subA A c l) (n - l) (c - l))) w := by
  unfold execOp
  simp only [ho, e1, e2, Option.map_some, Option.map_none, Instr.sliceAt, Sem.run_bind, run_underlying Try.underlying100 w, slice_run_lo w h1, Result.andThen_ok, Sem.run_pure]
theorem slice_arm_lo {ops : Array Oper} {rest : List Oper} {a : Act} {w : World} {Q : Exit → Act → World → Prop} {dst : Option Nat} {tp : TypeId} {ps : String} {af : Array Edge} {x lo : Operand} {A : Option Addr} {n c : Nat} (l : Nat) (h1 : l ≤ n) (e1 : a.eval x = .slice A n c) (e2 : a.eval lo = .int .i64 (l : Int))
    (h : wpList Try.prog ops Q rest (a.put dst (.slice (subA A c l) (n - l) (c - l))) w) : wpList Try.prog ops Q (⟨dst, .slice 100 x (some lo) none none, tp, ps, af, none⟩ :: rest) a w :=
  wpList_plain rfl fun _ hK => by
    unfold Oper.wp execOp
    simp only [e1, e2, Option.map_some, Option.map_none, Instr.sliceAt, Sem.run_bind, run_underlying Try.underlying100 w, slice_run_lo w h1, Result.andThen_ok, Sem.run_pure]
    exact hK _ _ h
end Go.Proofs.Ytpjeggbkhbghaaa
