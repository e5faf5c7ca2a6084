import Derived.Test.YticmkcipagmgmaaEqOp
import Derived.Test.YticmkcipagmgmaaMul2
namespace Go.Proofs.Yticmkcipagmgmaa
open Go Go.RowKit
theorem start2 (x y : Nat) (w : World) : ∃ w2, w2 = (w.alloc (A4 x)).alloc (A4 y) ∧ RdF w2 w2.heap.size (some ⟨w.heap.size, 0, none⟩) 4 4 (wv x) ∧ RdF w2 w2.heap.size (some ⟨w.heap.size + 1, 0, none⟩) 4 4 (wv y) ∧ Below w.heap.size w w2 := by
  have s1 : (w.alloc (A4 x)).heap.size = w.heap.size + 1 := by simp
  have ra := (own_A4 (w := w) (Nat.le_refl _) x).rd.alloc (A4 y)
  have rb := (own_A4 (w := w.alloc (A4 x)) (Nat.le_refl _) y).rd
  rw [s1] at rb
  exact ⟨_, rfl, ra, rb, ((Below.refl _ w).alloc (Nat.le_refl _) _).alloc (by omega) _⟩
theorem W4W4 {x y : Nat} (hx : x < W4) (hy : y < W4) : x * y < W8 := by
  rw [W8_eq]; exact Nat.mul_lt_mul_of_lt_of_le hx (Nat.le_of_lt hy) W4_pos
attribute [local irreducible] wd by8
set_option maxRecDepth 20000 in
set_option maxHeartbeats 800000 in
theorem products_walk {x y : Nat} (hx : x < W4) (hy : y < W4) (w : World) :
    Calls Try.prog 6 #[nv x, nv y] w fun e w' => e = .returned (.bool true) ∧ Below w.heap.size w w' := by
  obtain ⟨w2, e2, ra, rb, hb⟩ := start2 x y w
  have q8 := eq8_self (W4W4 hx hy)
  have km := fun w => mul_any x y hx hy w
  have kt := @times_any
  have hxy := W4W4 hx hy
  obtain ⟨m, hm⟩ : ∃ m, m = x * y := ⟨_, rfl⟩
  rw [← hm] at q8 km hxy
  unfold nv
  unfold dv at q8
  have Q8 := Lib.hid q8
  have HM := Lib.hid hm
  clear q8 hm
  go_enter Try.func6, Try.ntmps6
  go_wp2_with fail
  rw [← e2]
  clear e2
  have HS : ∀ wz, Below w2.heap.size w2 wz → wz.cell? ⟨w.heap.size, 0, none⟩ = some (.int .u64 (wd x 0 : Int)) ∧ wz.cell? ⟨w.heap.size, 1, none⟩ = some (.int .u64 (wd x 1 : Int)) ∧ wz.cell? ⟨w.heap.size, 2, none⟩ = some (.int .u64 (wd x 2 : Int)) ∧ wz.cell? ⟨w.heap.size, 3, none⟩ = some (.int .u64 (wd x 3 : Int)) ∧ wz.cell? ⟨w.heap.size + 1, 0, none⟩ = some (.int .u64 (wd y 0 : Int)) ∧ wz.cell? ⟨w.heap.size + 1, 1, none⟩ = some (.int .u64 (wd y 1 : Int)) ∧ wz.cell? ⟨w.heap.size + 1, 2, none⟩ = some (.int .u64 (wd y 2 : Int)) ∧ wz.cell? ⟨w.heap.size + 1, 3, none⟩ = some (.int .u64 (wd y 3 : Int)) := fun wz hz => by
    obtain ⟨a0, a1, a2, a3⟩ := (ra.keep hz).c4
    obtain ⟨b0, b1, b2, b3⟩ := (rb.keep hz).c4
    exact ⟨a0, a1, a2, a3, b0, b1, b2, b3⟩
  have HS2 := Lib.hid HS
  obtain ⟨x0, x1, x2, x3, y0, y1, y2, y3⟩ := HS w2 (Below.refl _ _)
  have hq : w2.heap.size ≤ w2.heap.size := Nat.le_refl _
  have hc : Below w2.heap.size w2 w2.drew := (Below.refl _ w2).drew
  clear HS kt
  have q8 := Q8.out
  go_region_held3 (fun wz => wz.cell? ⟨w.heap.size, 0, none⟩ = some (.int .u64 (wd x 0 : Int)) ∧ wz.cell? ⟨w.heap.size, 1, none⟩ = some (.int .u64 (wd x 1 : Int)) ∧ wz.cell? ⟨w.heap.size, 2, none⟩ = some (.int .u64 (wd x 2 : Int)) ∧ wz.cell? ⟨w.heap.size, 3, none⟩ = some (.int .u64 (wd x 3 : Int)) ∧ wz.cell? ⟨w.heap.size + 1, 0, none⟩ = some (.int .u64 (wd y 0 : Int)) ∧ wz.cell? ⟨w.heap.size + 1, 1, none⟩ = some (.int .u64 (wd y 1 : Int)) ∧ wz.cell? ⟨w.heap.size + 1, 2, none⟩ = some (.int .u64 (wd y 2 : Int)) ∧ wz.cell? ⟨w.heap.size + 1, 3, none⟩ = some (.int .u64 (wd y 3 : Int)))
    (exact HS2.out _ hc)
    (first | (go_at_call 25; (with_reducible refine (km _).mono ?_); rintro e wm ⟨rfl, h0⟩; (try replace px := px.next h0); (try replace py := py.next h0); (try replace pt := pt.next h0); replace hc := hc.trans (h0.mono (Nat.le_trans hq hc.size))) | (go_at_call 20; (with_reducible refine (digits_any hx _).mono ?_); rintro e wx ⟨Ax, cx, nx, rfl, dx, h0⟩; (try replace py := py.next h0); have px := dx.dig; have bx := Can.le32 dx.can hx; replace hc := hc.trans (h0.mono (Nat.le_trans hq hc.size)); clear dx) | (go_at_call 20; (with_reducible refine (digits_any hy _).mono ?_); rintro e wy ⟨Ay, cy, ny, rfl, dy, h0⟩; (try replace px := px.next h0); have py := dy.dig; have by_ := Can.le32 dy.can hy; replace hc := hc.trans (h0.mono (Nat.le_trans hq hc.size)); clear dy) | (go_at_call 26; (with_reducible refine (times_any _ px py (Nat.le_refl _) bx by_).mono ?_); rintro e wt ⟨At, ct, nt, rfl, dt, h0⟩; rw [← HM.out] at dt; have pt := dt.dig; replace hc := hc.trans (h0.mono (Nat.le_trans hq hc.size)); clear dt px py) | (go_at_call 15; (with_reducible refine (rwide_any _ pt (Nat.le_refl _)).mono ?_); rintro e ww ⟨rfl, h0⟩; replace hc := hc.trans (h0.mono (Nat.le_trans hq hc.size))) | (go_at_call 14; (with_reducible refine (awake_any _).mono ?_); rintro e wa ⟨rfl, h0⟩; replace hc := hc.trans (h0.mono (Nat.le_trans hq hc.size))) | ((with_reducible refine gate_list .eql 29 ?_); refine wpList_eqlA 29 _ _ _ rfl rfl rfl rfl (guard8 _ _ _ _ _) (by first | with_reducible exact Q8.out _) ?_) | ((with_reducible refine gate_listG .eql 29 ?_); refine wpList_eqlG 29 _ _ _ rfl rfl rfl rfl (guard8 _ _ _ _ _) (by first | with_reducible exact Q8.out _) ?_) | ((with_reducible refine gate_wp .eql 29 ?_); refine wp_eqlA 29 _ _ _ rfl rfl rfl (guard8 _ _ _ _ _) (by first | with_reducible exact Q8.out _) ?_))
  all_goals
    go_wp2_with fail
    go_ret
    exact ⟨rfl, hb.trans (hc.mono hb.size)⟩
end Go.Proofs.Yticmkcipagmgmaa
