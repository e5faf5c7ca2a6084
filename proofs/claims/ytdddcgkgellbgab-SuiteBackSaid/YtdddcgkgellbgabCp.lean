/-
  copy to a row of one's own (of layer 6's pad). By an AI agent.
-/
import Derived.Test.YtdddcgkgellbgabAv
import Derived.Laws.IdiomCopy
namespace Go.Proofs.Ytdddcgkgellbgab
open Go Go.RowKit
set_option maxRecDepth 20000
/-- Bytes as cells. -/
def bvf (bs : List UInt8) (k : Nat) : Value := .int .u8 ((nth bs k : Nat) : Int)
theorem copy_arm {ops : Array Oper} {rest : List Oper} {o : Oper} {a : Act} {w : World} {Q : Exit → Act → World → Prop} (hgd : o.guard = none) (d s : Operand) (ho : o.op = .call { callee := .builtin .copy, args := #[d, s], argTypes := #[31, 31] })
    {B g C N off dl dc m : Nat} {e0 : TypeId} {f : Nat → Value} (h0 : OwnF w B e0 (some ⟨g, 0, none⟩) C N f) {B' c : Nat} {A : Option Addr} {bs : List UInt8} (hr : Rd w B' A c bs) (hm : m = Nat.min bs.length dl) (hfit : off + m ≤ N)
    (hd : a.eval d = .slice (some ⟨g, off, none⟩) dl dc) (hs : a.eval s = .slice A bs.length c) (h : wpList Try.prog ops Q rest (a.put o.dst (.int .i64 (m : Int))) (setA w g off m (bvf bs))) : wpList Try.prog ops Q (o :: rest) a w := by
  have hu : Try.prog.underlying 31 = some (.slice 5) := Try.underlying31
  have hsz : (Try.prog.info? 5).map (·.size) = some 1 := by kernel_rfl
  by_cases h0' : m = 0
  · refine wpList_plain hgd fun K hK => ?_
    have hrun := run_copy_none (P := Try.prog) w 31 31 o.type 5 (some ⟨g, off, none⟩) A dl dc bs.length c hu hsz (by omega)
    unfold Oper.wp
    simp [execOp, ho, resolve, invoke, builtin, hd, hs, hrun, Result.andThen]
    subst h0'
    exact hK _ _ h
  · have hbs : bs ≠ [] := by
      rintro rfl
      simp at hm
      omega
    have hml : m ≤ bs.length := by rw [hm]; exact Nat.min_le_left _ _
    obtain ⟨b, o', rfl, hb, hcell⟩ := hr.some_ hbs
    refine wpList_plain hgd fun K hK => ?_
    have hrun := run_copy_cells (P := Try.prog) w 31 31 o.type 5 g off dl dc ⟨b, o', none⟩ bs.length c (rl m (bvf bs)) hu hsz (by rw [rl_len]; exact hm)
      (by intro j v hv; have hj : j < m := by have := (List.getElem?_eq_some_iff.1 hv).1; rwa [rl_len] at this
          rw [rl_get hj, Option.some.injEq] at hv; subst hv; rw [Addr.add_mid]; exact hcell j (by omega))
      (by intro j hj; rw [rl_len] at hj; rw [OwnF.cell h0 (k := off + j) (by omega)]; rfl)
      (by intro j hj; exact OwnF.free h0 _)
      (by intro v hv; obtain ⟨k, hk, rfl⟩ := List.mem_map.1 hv; rfl)
    rw [rl_len] at hrun
    unfold Oper.wp
    simp [execOp, ho, resolve, invoke, builtin, hd, hs, hrun, Result.andThen]
    exact hK _ _ h
theorem copy_to {ops : Array Oper} {rest : List Oper} {a : Act} {w : World} {Q : Exit → Act → World → Prop} {d s : Operand} {dst : Option Nat} {tp : TypeId} {ps : String} {af : Array Edge}
    {B g C N off dl dc m : Nat} {e0 : TypeId} {f : Nat → Value} (h0 : OwnF w B e0 (some ⟨g, 0, none⟩) C N f) {B' c : Nat} {A : Option Addr} {bs : List UInt8} (hr : Rd w B' A c bs) (hm : m = Nat.min bs.length dl) (hfit : off + m ≤ N)
    (hd : a.eval d = .slice (some ⟨g, off, none⟩) dl dc) (hs : a.eval s = .slice A bs.length c) (h : wpList Try.prog ops Q rest (a.put dst (.int .i64 (m : Int))) (setA w g off m (bvf bs))) : wpList Try.prog ops Q (⟨dst, .call { callee := .builtin .copy, args := #[d, s], argTypes := #[31, 31] }, tp, ps, af, none⟩ :: rest) a w :=
  copy_arm rfl d s rfl h0 hr hm hfit hd hs h
end Go.Proofs.Ytdddcgkgellbgab
