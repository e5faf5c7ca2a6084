import Derived.Test.YticmkcipagmgmaaAwake
namespace Go.Proofs.Yticmkcipagmgmaa
open Go Go.RowKit
theorem RdF.c8 {w : World} {B g x : Nat} (h : RdF w B (some ⟨g, 0, none⟩) 8 8 (wv x)) : w.cell? ⟨g, 0, none⟩ = some (.int .u64 (wd x 0 : Int)) ∧ w.cell? ⟨g, 1, none⟩ = some (.int .u64 (wd x 1 : Int)) ∧ w.cell? ⟨g, 2, none⟩ = some (.int .u64 (wd x 2 : Int)) ∧ w.cell? ⟨g, 3, none⟩ = some (.int .u64 (wd x 3 : Int)) ∧
    w.cell? ⟨g, 4, none⟩ = some (.int .u64 (wd x 4 : Int)) ∧ w.cell? ⟨g, 5, none⟩ = some (.int .u64 (wd x 5 : Int)) ∧ w.cell? ⟨g, 6, none⟩ = some (.int .u64 (wd x 6 : Int)) ∧ w.cell? ⟨g, 7, none⟩ = some (.int .u64 (wd x 7 : Int)) :=
  ⟨h.cell0 (by decide), h.cell0 (by decide), h.cell0 (by decide), h.cell0 (by decide), h.cell0 (by decide), h.cell0 (by decide), h.cell0 (by decide), h.cell0 (by decide)⟩
theorem bw_gen (x : Nat) {y : Nat} (hy : y < W4) : bw x y 4 = if x % W4 < y then 1 else 0 := by
  unfold bw brw
  rw [show (18446744073709551616 : Nat) ^ 4 = W4 from rfl, Nat.mod_eq_of_lt hy]
theorem back_sub {x y : Nat} (hx : x < W4) (hy : y < W4) (w : World) :
    Calls Try.prog 23 #[nv (x + y), nv y] w fun e w' => e = .returned (.tuple #[nv x, .int .u64 (cw x y 4 : Int)]) ∧ Below w.heap.size w w' := by
  have h := sub_any (x + y) y hy w
  rw [show nv (x + y + W4 - y) = nv x by rw [show x + y + W4 - y = x + W4 by omega]; exact nv_congr fun k hk => wd_add_W4 _ hk] at h
  rw [show bw (x + y) y 4 = cw x y 4 by
    rw [bw_gen _ hy, cw_four hx hy]
    by_cases h : x + y < W4
    · rw [Nat.mod_eq_of_lt h, Nat.div_eq_of_lt h, if_neg (by omega)]
    · rw [Nat.mod_eq_sub_mod (by omega), Nat.mod_eq_of_lt (by omega), if_pos (by omega), Nat.div_eq_of_lt_le] <;> omega] at h
  exact h
theorem zero_sub {x : Nat} (hx : x < W4) (w : World) :
    Calls Try.prog 23 #[nv x, nv x] w fun e w' => e = .returned (.tuple #[nv 0, .int .u64 0]) ∧ Below w.heap.size w w' := by
  have h := sub_any x x hx w
  rw [show nv (x + W4 - x) = nv 0 by rw [show x + W4 - x = 0 + W4 by omega]; exact nv_congr fun k hk => wd_add_W4 _ hk, bw_four hx hx, if_neg (by omega)] at h
  exact h
attribute [local irreducible] wd by8
set_option maxRecDepth 20000 in
set_option maxHeartbeats 400000 in
theorem back_walk {x y : Nat} (hx : x < W4) (hy : y < W4) (w : World) :
    Calls Try.prog 9 #[nv x, nv y] w fun e w' => e = .returned (.bool true) ∧ Below w.heap.size w w' := by
  have qx := eq4 x x hx hx
  have qz := eq4z 0 W4_pos
  have ra := (own_A4 (w := w) (Nat.le_refl _) x).rd
  have hc := (Below.refl w.heap.size w).alloc (Nat.le_refl _) (A4 x)
  have s_1 : ((w).alloc (A4 x)).heap.size = w.heap.size + 1 := by simp
  have rb := (own_A4 (w := (w).alloc (A4 x)) (Nat.le_refl _) y).rd
  rw [s_1] at rb
  replace ra := ra.alloc (A4 y)
  replace hc := hc.alloc hc.size (A4 y)
  clear s_1
  unfold nv at qx qz ⊢
  go_enter Try.func9, Try.ntmps9
  go_wp2_with fail
  go_at_call 21
  refine (add_any x y _).mono ?_
  rintro e w1 ⟨rfl, h0⟩
  replace ra := ra.next h0
  replace rb := rb.next h0
  replace hc := hc.trans (h0.mono hc.size)
  clear h0
  have rs := (own_A4 (w := w1) (Nat.le_refl _) (x + y)).rd
  replace ra := ra.alloc (A4 (x + y))
  replace rb := rb.alloc (A4 (x + y))
  replace hc := hc.alloc hc.size (A4 (x + y))
  obtain ⟨ra_0, ra_1, ra_2, ra_3⟩ := ra.c4
  obtain ⟨rb_0, rb_1, rb_2, rb_3⟩ := rb.c4
  obtain ⟨rs_0, rs_1, rs_2, rs_3⟩ := rs.c4
  go_wp2_with fail
  clear ra_0 ra_1 ra_2 ra_3 rb_0 rb_1 rb_2 rb_3 rs_0 rs_1 rs_2 rs_3
  go_at_call 23
  refine (back_sub hx hy _).mono ?_
  rintro e w2 ⟨rfl, h0⟩
  replace ra := ra.next h0
  replace rb := rb.next h0
  replace rs := rs.next h0
  replace hc := hc.trans (h0.mono hc.size)
  clear h0
  have rd := (own_A4 (w := w2) (Nat.le_refl _) (x)).rd
  replace ra := ra.alloc (A4 (x))
  replace rb := rb.alloc (A4 (x))
  replace rs := rs.alloc (A4 (x))
  replace hc := hc.alloc hc.size (A4 (x))
  obtain ⟨ra_0, ra_1, ra_2, ra_3⟩ := ra.c4
  obtain ⟨rb_0, rb_1, rb_2, rb_3⟩ := rb.c4
  obtain ⟨rs_0, rs_1, rs_2, rs_3⟩ := rs.c4
  obtain ⟨rd_0, rd_1, rd_2, rd_3⟩ := rd.c4
  go_wp2_with fail
  clear ra_0 ra_1 ra_2 ra_3 rb_0 rb_1 rb_2 rb_3 rs_0 rs_1 rs_2 rs_3 rd_0 rd_1 rd_2 rd_3
  go_at_call 23
  refine (zero_sub hx _).mono ?_
  rintro e w3 ⟨rfl, h0⟩
  replace ra := ra.next h0
  replace rb := rb.next h0
  replace rs := rs.next h0
  replace rd := rd.next h0
  replace hc := hc.trans (h0.mono hc.size)
  clear h0
  have rz := (own_A4 (w := w3) (Nat.le_refl _) (0)).rd
  replace ra := ra.alloc (A4 (0))
  replace rb := rb.alloc (A4 (0))
  replace rs := rs.alloc (A4 (0))
  replace rd := rd.alloc (A4 (0))
  replace hc := hc.alloc hc.size (A4 (0))
  obtain ⟨ra_0, ra_1, ra_2, ra_3⟩ := ra.c4
  obtain ⟨rb_0, rb_1, rb_2, rb_3⟩ := rb.c4
  obtain ⟨rs_0, rs_1, rs_2, rs_3⟩ := rs.c4
  obtain ⟨rd_0, rd_1, rd_2, rd_3⟩ := rd.c4
  obtain ⟨rz_0, rz_1, rz_2, rz_3⟩ := rz.c4
  go_wp2_with fail
  clear ra_0 ra_1 ra_2 ra_3 rb_0 rb_1 rb_2 rb_3 rs_0 rs_1 rs_2 rs_3 rd_0 rd_1 rd_2 rd_3 rz_0 rz_1 rz_2 rz_3
  go_at_call 14
  refine (awake_any _).mono ?_
  rintro e w4 ⟨rfl, h0⟩
  replace ra := ra.next h0
  replace rb := rb.next h0
  replace rs := rs.next h0
  replace rd := rd.next h0
  replace rz := rz.next h0
  replace hc := hc.trans (h0.mono hc.size)
  clear h0
  obtain ⟨ra_0, ra_1, ra_2, ra_3⟩ := ra.c4
  obtain ⟨rb_0, rb_1, rb_2, rb_3⟩ := rb.c4
  obtain ⟨rs_0, rs_1, rs_2, rs_3⟩ := rs.c4
  obtain ⟨rd_0, rd_1, rd_2, rd_3⟩ := rd.c4
  obtain ⟨rz_0, rz_1, rz_2, rz_3⟩ := rz.c4
  go_wp2_with fail
  go_ret
  exact ⟨rfl, hc⟩
end Go.Proofs.Yticmkcipagmgmaa
