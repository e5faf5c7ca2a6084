/-
  Layer 10's own, awake, StreamQuarters. By an AI agent.
-/
import Derived.Test.YthbogplajbldaaaY7
import Derived.Test.YthbogplajbldaaaY4
import Derived.Test.YthbogplajbldaaaMX
import Derived.Test.YthbogplajbldaaaInv
namespace Go.Proofs.Ythbogplajbldaaa
open Go Go.RowKit
set_option maxRecDepth 20000
theorem own10_any {A : Option Addr} {B c : Nat} {bs : List UInt8} (w : World) (hr : Rd w B A c bs) (hB : B ≤ w.heap.size) (hl : bs.length ≤ 140737488355328) :
    Calls Try.prog 11 #[.slice A bs.length c] w fun e w' => ∃ A' c', e = .returned (.slice A' bs.length c') ∧ Own w' w.heap.size 5 A' c' bs ∧ Below w.heap.size w w' := by
  obtain ⟨i0, hi, hz0, hz1, hz2⟩ := info_parts infoU8y
  have h2 : Rd (w.alloc (.cells #[] 5)) B A c bs := hr.keep ((Below.refl B w).alloc hB _)
  have h3 : Own (w.alloc (.cells #[] 5)) w.heap.size 5 (some ⟨w.heap.size, 0, none⟩) 0 [] := World.ownsRow_made w #[] 0 (Nat.le_refl _) (by decide) (by decide)
  have h4 : Below w.heap.size w (w.alloc (.cells #[] 5)) := (Below.refl _ w).alloc (Nat.le_refl _) _
  go_enter Try.func11, Try.ntmps11
  go_wp2_with (at_builtin; refine wpList_app _ rfl (.tmp 3) (.tmp 4) _ rfl w.heap.size 5 i0 _ Try.underlying29 hi hz0 hz1 hz2 rfl (xs := []) rfl h3 rfl h2 (by simpa using hl) (by simp) ?_; intro A1 c1 v1 ho hb)
  replace ho : Own v1 w.heap.size 5 A1 c1 bs := ho
  go_ret
  exact ⟨A1, c1, rfl, ho, h4.trans hb⟩
theorem own10_rd (bs : List UInt8) (A : Option Addr) (c : Nat) (w : World) (hl : bs.length ≤ 140737488355328) (hr : Rd w w.heap.size A c bs) :
    Calls Try.prog 11 #[.slice A bs.length c] w fun e w' => ∃ A' c', e = .returned (.slice A' bs.length c') ∧ Rd w' w'.heap.size A' c' bs ∧ Below w.heap.size w w' :=
  (own10_any w hr (Nat.le_refl _) hl).mono fun _ _ ⟨A', c', he, o, hb⟩ => ⟨A', c', he, o.rd, hb⟩
theorem q4_lit : (Q4.quarter ⟨286331153, 16909060, 2609737539, 19088743⟩) = ⟨3928658676, 3407673550, 1166100270, 1484899515⟩ := by
  rw [Q4.mk.injEq]
  decide +kernel
/-! '==' over arrays of four words. -/
theorem part_u32 (xs : Array Value) (i : Nat) (v : Value) (h : xs[i]? = some v) (w : World) : (part 22 xs (i * Try.prog.cellsOf 22)).run Try.prog w = .ok v w := by
  have e : Try.prog.cellsOf 22 = 1 := by kernel_rfl
  rw [e, Nat.mul_one]
  simp [part, go_sem, h]
theorem items_u32 (xs : Array Value) (a : Nat → Int) (w : World) : ∀ is : List Nat, (∀ i ∈ is, xs[i]? = some (.int .u32 (a i))) → (Op.eqItems 9999 22 (Try.prog.cellsOf 22) xs xs is).run Try.prog w = .ok true w
  | [], _ => rfl
  | i :: is, h => by
    have h0 := h i (by simp)
    have ih := items_u32 xs a w is (fun j hj => h j (by simp [hj]))
    simp only [Op.eqItems, Sem.run_bind, part_u32 _ _ _ h0, Result.andThen_ok, run_equalIn_int w 9998 22 .u32 .u32 (a i) (a i) Try.underlying22, beq_self_eq_true]
    simpa using ih
theorem eqQ (q : Q4) (w : World) : (Op.equalIn 10000 23 (q4a q) (q4a q)).run Try.prog w = .ok true w := by
  obtain ⟨i0, hi, _⟩ := info_parts infoU32w
  unfold q4a
  rw [run_equalIn_array (P := Try.prog) (w := w) 9999 _ _ Try.underlying23 hi, items_u32 _ (fun i => ((q.at i : Nat) : Int)) w (List.range 4)]
  intro i hi
  have h4 : i = 0 ∨ i = 1 ∨ i = 2 ∨ i = 3 := by have hi' : i < 4 := (by simpa using hi); omega
  rcases h4 with rfl | rfl | rfl | rfl <;> rfl
theorem guardQ (s1 s2 : Operand) (xs ys : Array Value) (w : World) : (eqGuard .eql 23 s1 s2 (.agg xs) (.agg ys)).run Try.prog w = .ok () w := by
  unfold eqGuard; simp [go_sem]
theorem run_eqQ {a : Act} {o : Oper} {s1 s2 : Operand} {ty : TypeId} {q : Q4} (ho : o.op = .binOp .eql 23 s1 s2 ty) (h1 : a.eval s1 = q4a q) (h2 : a.eval s2 = q4a q) (w : World) : (execOp a.eval o).run Try.prog w = .ok (.value (.bool true)) w := by
  have hq := eqQ q w
  unfold q4a at h1 h2 hq
  unfold execOp
  simp only [ho, h1, h2, Sem.run_bind, guardQ, Result.andThen_ok, run_eql_struct, hq, Sem.run_pure]
theorem eqQ_arm {ops : Array Oper} {rest : List Oper} {a : Act} {w : World} {Q : Exit → Act → World → Prop} {dst : Option Nat} {tp : TypeId} {ps : String} {af : Array Edge} {s1 s2 : Operand} {ty : TypeId} {q : Q4} (h1 : a.eval s1 = q4a q) (h2 : a.eval s2 = q4a q)
    (h : wpList Try.prog ops Q rest (a.put dst (.bool true)) w) : wpList Try.prog ops Q (⟨dst, .binOp .eql 23 s1 s2 ty, tp, ps, af, none⟩ :: rest) a w :=
  wpList_plain rfl fun K hK => by
    unfold Oper.wp
    rw [run_eqQ rfl h1 h2 w]
    exact hK _ _ h
theorem awake10 (w : World) : Calls Try.prog 10 #[] w fun e w' => e = .returned (.bool true) ∧ Below w.heap.size w w' := by
  have K := Lib.hid (cQuarter_any (q := ⟨286331153, 16909060, 2609737539, 19088743⟩) ⟨by decide, by decide, by decide, by decide⟩ w)
  rw [q4_lit] at K
  unfold q4a at K
  go_enter Try.func10, Try.ntmps10
  go_wp2_with fail
  go_at_call 9
  refine K.out.mono ?_
  rintro e v ⟨rfl, h0⟩
  go_wp2_with ((with_reducible refine eqQ_arm (q := ⟨3928658676, 3407673550, 1166100270, 1484899515⟩) ?_ ?_ ?_); rfl; rfl)
  go_ret
  exact ⟨rfl, h0⟩
end Go.Proofs.Ythbogplajbldaaa
