import Derived.Test.YticmkcipagmgmaaEqOp
namespace Go.Proofs.Yticmkcipagmgmaa
open Go Go.RowKit
attribute [local irreducible] wd by8
set_option maxRecDepth 20000 in
set_option maxHeartbeats 800000 in
theorem sums_walk {x y : Nat} (hx : x < W4) (hy : y < W4) (w : World) :
    Calls Try.prog 5 #[nv x, nv y] w fun e w' => e = .returned (.bool true) ∧ Below w.heap.size w w' := by
  have k1 := fun w => add_any x y w
  have k2 := fun w => radd_any hx hy w
  have k3 := fun w => sub_any x y hy w
  have k4 := fun w => rsub_any hx hy w
  generalize x + y = s at k1 k2
  generalize x + W4 - y = D at k3 k4
  generalize cw x y 4 = c at k1 k2
  generalize bw x y 4 = b at k3 k4
  have q1 := eq4_self s
  have q2 := eq4_self D
  have ra := (own_A4 (w := w) (Nat.le_refl _) x).rd
  have hc := (Below.refl w.heap.size w).alloc (Nat.le_refl _) (A4 x)
  have s_1 : ((w).alloc (A4 x)).heap.size = w.heap.size + 1 := by simp
  have rb := (own_A4 (w := (w).alloc (A4 x)) (Nat.le_refl _) y).rd
  rw [s_1] at rb
  replace ra := ra.alloc (A4 y)
  replace hc := hc.alloc hc.size (A4 y)
  clear s_1
  unfold nv at q1 q2 ⊢
  have Q1 := Lib.hid q1
  have Q2 := Lib.hid q2
  clear q1 q2
  go_enter Try.func5, Try.ntmps5
  go_wp2_with fail
  go_at_call 21
  refine (k1 _).mono ?_
  rintro e w1 ⟨rfl, h0⟩
  replace ra := ra.next h0
  replace rb := rb.next h0
  replace hc := hc.trans (h0.mono hc.size)
  clear h0
  have rs := (own_A4 (w := w1) (Nat.le_refl _) (s)).rd
  replace ra := ra.alloc (A4 (s))
  replace rb := rb.alloc (A4 (s))
  replace hc := hc.alloc hc.size (A4 (s))
  obtain ⟨ra_0, ra_1, ra_2, ra_3⟩ := ra.c4
  obtain ⟨rb_0, rb_1, rb_2, rb_3⟩ := rb.c4
  obtain ⟨rs_0, rs_1, rs_2, rs_3⟩ := rs.c4
  go_wp2_with fail
  clear ra_0 ra_1 ra_2 ra_3 rb_0 rb_1 rb_2 rb_3 rs_0 rs_1 rs_2 rs_3
  go_at_call 22
  refine (k2 _).mono ?_
  rintro e w2 ⟨rfl, h0⟩
  replace ra := ra.next h0
  replace rb := rb.next h0
  replace rs := rs.next h0
  replace hc := hc.trans (h0.mono hc.size)
  clear h0
  have rt := (own_A4 (w := w2) (Nat.le_refl _) (s)).rd
  replace ra := ra.alloc (A4 (s))
  replace rb := rb.alloc (A4 (s))
  replace rs := rs.alloc (A4 (s))
  replace hc := hc.alloc hc.size (A4 (s))
  obtain ⟨ra_0, ra_1, ra_2, ra_3⟩ := ra.c4
  obtain ⟨rb_0, rb_1, rb_2, rb_3⟩ := rb.c4
  obtain ⟨rs_0, rs_1, rs_2, rs_3⟩ := rs.c4
  obtain ⟨rt_0, rt_1, rt_2, rt_3⟩ := rt.c4
  go_wp2_with fail
  clear ra_0 ra_1 ra_2 ra_3 rb_0 rb_1 rb_2 rb_3 rs_0 rs_1 rs_2 rs_3 rt_0 rt_1 rt_2 rt_3
  go_at_call 23
  refine (k3 _).mono ?_
  rintro e w3 ⟨rfl, h0⟩
  replace ra := ra.next h0
  replace rb := rb.next h0
  replace rs := rs.next h0
  replace rt := rt.next h0
  replace hc := hc.trans (h0.mono hc.size)
  clear h0
  have ru := (own_A4 (w := w3) (Nat.le_refl _) (D)).rd
  replace ra := ra.alloc (A4 (D))
  replace rb := rb.alloc (A4 (D))
  replace rs := rs.alloc (A4 (D))
  replace rt := rt.alloc (A4 (D))
  replace hc := hc.alloc hc.size (A4 (D))
  obtain ⟨ra_0, ra_1, ra_2, ra_3⟩ := ra.c4
  obtain ⟨rb_0, rb_1, rb_2, rb_3⟩ := rb.c4
  obtain ⟨rs_0, rs_1, rs_2, rs_3⟩ := rs.c4
  obtain ⟨rt_0, rt_1, rt_2, rt_3⟩ := rt.c4
  obtain ⟨ru_0, ru_1, ru_2, ru_3⟩ := ru.c4
  go_wp2_with fail
  clear ra_0 ra_1 ra_2 ra_3 rb_0 rb_1 rb_2 rb_3 rs_0 rs_1 rs_2 rs_3 rt_0 rt_1 rt_2 rt_3 ru_0 ru_1 ru_2 ru_3
  go_at_call 24
  refine (k4 _).mono ?_
  rintro e w4 ⟨rfl, h0⟩
  replace ra := ra.next h0
  replace rb := rb.next h0
  replace rs := rs.next h0
  replace rt := rt.next h0
  replace ru := ru.next h0
  replace hc := hc.trans (h0.mono hc.size)
  clear h0
  have rv := (own_A4 (w := w4) (Nat.le_refl _) (D)).rd
  replace ra := ra.alloc (A4 (D))
  replace rb := rb.alloc (A4 (D))
  replace rs := rs.alloc (A4 (D))
  replace rt := rt.alloc (A4 (D))
  replace ru := ru.alloc (A4 (D))
  replace hc := hc.alloc hc.size (A4 (D))
  obtain ⟨ra_0, ra_1, ra_2, ra_3⟩ := ra.c4
  obtain ⟨rb_0, rb_1, rb_2, rb_3⟩ := rb.c4
  obtain ⟨rs_0, rs_1, rs_2, rs_3⟩ := rs.c4
  obtain ⟨rt_0, rt_1, rt_2, rt_3⟩ := rt.c4
  obtain ⟨ru_0, ru_1, ru_2, ru_3⟩ := ru.c4
  obtain ⟨rv_0, rv_1, rv_2, rv_3⟩ := rv.c4
  go_wp2_with (first | ((with_reducible refine gate_list .eql 25 ?_); refine wpList_eqlA 25 _ _ _ rfl rfl rfl rfl (guard4 _ _ _ _ _) (by first | with_reducible exact Q1.out _ | with_reducible exact Q2.out _) ?_) | ((with_reducible refine gate_listG .eql 25 ?_); refine wpList_eqlG 25 _ _ _ rfl rfl rfl rfl (guard4 _ _ _ _ _) (by first | with_reducible exact Q1.out _ | with_reducible exact Q2.out _) ?_) | ((with_reducible refine gate_wp .eql 25 ?_); refine wp_eqlA 25 _ _ _ rfl rfl rfl (guard4 _ _ _ _ _) (by first | with_reducible exact Q1.out _ | with_reducible exact Q2.out _) ?_))
  clear ra_0 ra_1 ra_2 ra_3 rb_0 rb_1 rb_2 rb_3 rs_0 rs_1 rs_2 rs_3 rt_0 rt_1 rt_2 rt_3 ru_0 ru_1 ru_2 ru_3 rv_0 rv_1 rv_2 rv_3
  go_at_call 14
  refine (awake_any _).mono ?_
  rintro e w5 ⟨rfl, h0⟩
  replace ra := ra.next h0
  replace rb := rb.next h0
  replace rs := rs.next h0
  replace rt := rt.next h0
  replace ru := ru.next h0
  replace rv := rv.next h0
  replace hc := hc.trans (h0.mono hc.size)
  clear h0
  obtain ⟨ra_0, ra_1, ra_2, ra_3⟩ := ra.c4
  obtain ⟨rb_0, rb_1, rb_2, rb_3⟩ := rb.c4
  obtain ⟨rs_0, rs_1, rs_2, rs_3⟩ := rs.c4
  obtain ⟨rt_0, rt_1, rt_2, rt_3⟩ := rt.c4
  obtain ⟨ru_0, ru_1, ru_2, ru_3⟩ := ru.c4
  obtain ⟨rv_0, rv_1, rv_2, rv_3⟩ := rv.c4
  go_wp2_with fail
  go_ret
  exact ⟨rfl, hc⟩
end Go.Proofs.Yticmkcipagmgmaa
