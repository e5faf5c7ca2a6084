import Derived.Test.YticmkcipagmgmaaRSub
import Derived.KernelRfl
namespace Go.Proofs.Yticmkcipagmgmaa
open Go Go.RowKit
abbrev lit4 (a b c d : Int) : Value := .agg #[.int .u64 a, .int .u64 b, .int .u64 c, .int .u64 d]
theorem l_top : nv (W4 - 1) = lit4 18446744073709551615 18446744073709551615 18446744073709551615 18446744073709551615 := by kernel_rfl
theorem l_one : nv 1 = lit4 1 0 0 0 := by kernel_rfl
theorem l_three : nv 3 = lit4 3 0 0 0 := by kernel_rfl
theorem l_ten : dv 10 = .agg #[.int .u64 10, .int .u64 0, .int .u64 0, .int .u64 0, .int .u64 0, .int .u64 0, .int .u64 0, .int .u64 0] := by kernel_rfl
theorem l_over : nv (W4 - 1 + 1) = lit4 0 0 0 0 := by kernel_rfl
theorem l_left : nv (10 % 3) = lit4 1 0 0 0 := by kernel_rfl
theorem l_two64 : nv 18446744073709551616 = lit4 0 1 0 0 := by kernel_rfl
theorem aw_add (w : World) : Calls Try.prog 21 #[lit4 18446744073709551615 18446744073709551615 18446744073709551615 18446744073709551615, lit4 1 0 0 0] w fun e w' => e = .returned (.tuple #[lit4 0 0 0 0, .int .u64 1]) ∧ Below w.heap.size w w' := by
  have h := add_any (W4 - 1) 1 w
  rw [l_top, l_one, l_over, show cw (W4 - 1) 1 4 = 1 by kernel_rfl] at h
  exact h
theorem aw_mod (w : World) : Calls Try.prog 32 #[.agg #[.int .u64 10, .int .u64 0, .int .u64 0, .int .u64 0, .int .u64 0, .int .u64 0, .int .u64 0, .int .u64 0], lit4 3 0 0 0] w fun e w' => e = .returned (.tuple #[lit4 1 0 0 0, .int .i64 0]) ∧ Below w.heap.size w w' := by
  have h := mod_any (a := 10) (m := 3) (by decide +kernel) (by decide +kernel) (by decide) w
  rw [l_ten, l_three, l_left] at h
  exact h
theorem aw_bit (w : World) : Calls Try.prog 30 #[lit4 0 1 0 0, .int .i64 64] w fun e w' => e = .returned (.int .u64 1) ∧ Below w.heap.size w w' := by
  have h := bit_in 18446744073709551616 64 (by decide) w
  rw [l_two64, show bt 18446744073709551616 64 = 1 by kernel_rfl] at h
  exact h
theorem aw_eq0 (w : World) : (Op.equalIn 10000 25 (lit4 0 0 0 0) (lit4 0 0 0 0)).run Try.prog w = .ok true w := by
  have h := eq4 0 0 W4_pos W4_pos w
  rw [nv_zero] at h
  exact h
theorem aw_eq1 (w : World) : (Op.equalIn 10000 25 (lit4 1 0 0 0) (lit4 1 0 0 0)).run Try.prog w = .ok true w := by
  have h := eq4 1 1 (by decide +kernel) (by decide +kernel) w
  rw [l_one] at h
  exact h
theorem RdF.alloc {w : World} {A : Option Addr} {c n : Nat} {f : Nat → Value} (h : RdF w w.heap.size A c n f) (o : Obj) : RdF (w.alloc o) (w.alloc o).heap.size A c n f := h.next ((Below.refl _ w).alloc (Nat.le_refl _) o)
set_option maxRecDepth 20000 in
set_option maxHeartbeats 400000 in
theorem awake_any (w : World) : Calls Try.prog 14 #[] w fun e w' => e = .returned (.bool true) ∧ Below w.heap.size w w' := by
  have q0 := aw_eq0
  have q1 := aw_eq1
  unfold lit4 at q0 q1
  go_enter Try.func14, Try.ntmps14
  go_wp2_with fail
  go_at_call 21
  refine (aw_add _).mono ?_
  rintro e w1 ⟨rfl, hb1⟩
  have hc := hb1.alloc hb1.size Z4
  have r0 := (own_Z4 (w := w1) (Nat.le_refl _)).rd
  unfold lit4
  go_wp2_with fail
  go_at_call 32
  refine (aw_mod _).mono ?_
  rintro e w2 ⟨rfl, hb2⟩
  replace r0 := r0.next hb2
  replace hc := hc.trans (hb2.mono hc.size)
  clear hb1 hb2
  have r1 := (OwnF.lit (w := w2) 25 (Nat.le_refl _) #[.int .u64 1, .int .u64 0, .int .u64 0, .int .u64 0] 4 (fun j => .int .u64 (if j = 0 then 1 else 0)) (by decide) rfl).rd
  replace r0 := r0.alloc (.cells #[.int .u64 1, .int .u64 0, .int .u64 0, .int .u64 0] 25)
  replace hc := hc.alloc hc.size (.cells #[.int .u64 1, .int .u64 0, .int .u64 0, .int .u64 0] 25)
  have c0 := r0.cell0 (k := 0) (by decide)
  have c1 := r0.cell0 (k := 1) (by decide)
  have c2 := r0.cell0 (k := 2) (by decide)
  have c3 := r0.cell0 (k := 3) (by decide)
  have d0 := r1.cell0 (k := 0) (by decide)
  have d1 := r1.cell0 (k := 1) (by decide)
  have d2 := r1.cell0 (k := 2) (by decide)
  have d3 := r1.cell0 (k := 3) (by decide)
  simp at d0 d1 d2 d3
  clear r0 r1
  unfold lit4
  go_wp2_with fail
  go_at_call 30
  refine (aw_bit _).mono ?_
  rintro e w3 ⟨rfl, hb3⟩
  replace hc := hc.trans (hb3.mono hc.size)
  go_wp2_with fail
  go_ret
  exact ⟨rfl, hc⟩
end Go.Proofs.Yticmkcipagmgmaa
