import Derived.Test.YticmkcipagmgmaaEqOp
namespace Go.Proofs.Yticmkcipagmgmaa
open Go Go.RowKit
theorem start2D (x y : Nat) (w : World) : ∃ w2, w2 = (w.alloc (A8 x)).alloc (A4 y) ∧ RdF w2 w2.heap.size (some ⟨w.heap.size, 0, none⟩) 8 8 (wv x) ∧ RdF w2 w2.heap.size (some ⟨w.heap.size + 1, 0, none⟩) 4 4 (wv y) ∧ Below w.heap.size w w2 := by
  have s1 : (w.alloc (A8 x)).heap.size = w.heap.size + 1 := by simp
  have ra := (own_A8 (w := w) (Nat.le_refl _) x).rd.alloc (A4 y)
  have rb := (own_A4 (w := w.alloc (A8 x)) (Nat.le_refl _) y).rd
  rw [s1] at rb
  exact ⟨_, rfl, ra, rb, ((Below.refl _ w).alloc (Nat.le_refl _) _).alloc (by omega) _⟩
theorem words_dv {a : Nat} (ha : a < W8) (w : World) : Calls Try.prog 34 #[dv a] w fun e w' => ∃ A c n, e = .returned (.slice A n c) ∧ DOwn w' w.heap.size A c n a ∧ Below w.heap.size w w' := by
  have h := words_any (lo := a % W4) (hi := a / W4) (Nat.mod_lt _ W4_pos) (Nat.div_lt_of_lt_mul (by rw [← W8_eq]; exact ha)) w
  rw [Nat.mod_add_div, ← dv_split] at h
  exact h
theorem Can.le500 {n x : Nat} (h : Can n x) (hx : x < W4) : n ≤ 500 := by have := h 32 (by rw [← W4_256]; exact hx); omega
theorem Can.le64 {n x : Nat} (h : Can n x) (hx : x < W8) : n ≤ 1000 := by have := h 64 (by rw [← W8_256]; exact hx); omega
attribute [local irreducible] wd by8
set_option maxRecDepth 20000 in
set_option maxHeartbeats 800000 in
theorem left_zero (a : Nat) (w : World) :
    Calls Try.prog 8 #[dv a, nv 0] w fun e w' => e = .returned (.bool true) ∧ Below w.heap.size w w' := by
  obtain ⟨w2, e2, ra, rb, hb⟩ := start2D a 0 w
  have q1 := eq4z 0 W4_pos
  have hd : decide ((0 : Nat) = 0) = true := rfl
  rw [hd] at q1
  unfold nv dv
  unfold nv at q1
  have Q1 := Lib.hid q1
  clear q1 hd
  go_enter Try.func8, Try.ntmps8
  go_wp2_with fail
  rw [← e2]
  clear e2
  go_at_call 32
  refine (mod_zero a _).mono ?_
  rintro e w3 ⟨rfl, h0⟩
  have rg := (own_A4 (w := w3) (Nat.le_refl _) 0).rd
  have hc := (hb.trans (h0.mono hb.size)).alloc (Nat.le_trans hb.size h0.size) (A4 0)
  replace rb := (rb.next h0).alloc (A4 0)
  obtain ⟨b0, b1, b2, b3⟩ := rb.c4
  obtain ⟨g0, g1, g2, g3⟩ := rg.c4
  go_wp2_with (first | ((with_reducible refine gate_list .eql 25 ?_); refine wpList_eqlA 25 _ _ _ rfl rfl rfl rfl (guard4 _ _ _ _ _) (by first | with_reducible exact Q1.out _) ?_) | ((with_reducible refine gate_listG .eql 25 ?_); refine wpList_eqlG 25 _ _ _ rfl rfl rfl rfl (guard4 _ _ _ _ _) (by first | with_reducible exact Q1.out _) ?_) | ((with_reducible refine gate_wp .eql 25 ?_); refine wp_eqlA 25 _ _ _ rfl rfl rfl (guard4 _ _ _ _ _) (by first | with_reducible exact Q1.out _) ?_))
  go_at_call 14
  refine (awake_any _).mono ?_
  rintro e w4 ⟨rfl, h1⟩
  replace hc := hc.trans (h1.mono hc.size)
  go_wp2_with fail
  go_ret
  exact ⟨rfl, hc⟩
set_option maxRecDepth 20000 in
set_option maxHeartbeats 1600000 in
theorem left_pos {a m : Nat} (ha : a < W8) (hm : m < W4) (h0 : 0 < m) (w : World) :
    Calls Try.prog 8 #[dv a, nv m] w fun e w' => e = .returned (.bool true) ∧ Below w.heap.size w w' := by
  obtain ⟨w2, e2, ra, rb, hb⟩ := start2D a m w
  have q1 := eq4z m hm
  have hd : decide (m = 0) = false := by simp; omega
  rw [hd] at q1
  have km := fun w => mod_any ha hm h0 w
  have qr := eq4_self (a % m)
  obtain ⟨r, hr⟩ : ∃ r, r = a % m := ⟨_, rfl⟩
  rw [← hr] at km qr
  have HR := Lib.hid hr
  unfold nv dv
  unfold nv at q1 qr
  have Q1 := Lib.hid q1
  have QR := Lib.hid qr
  clear q1 qr hd hr
  go_enter Try.func8, Try.ntmps8
  go_wp2_with fail
  rw [← e2]
  clear e2
  go_at_call 32
  refine (km _).mono ?_
  rintro e w3 ⟨rfl, h1⟩
  have rg := (own_A4 (w := w3) (Nat.le_refl _) r).rd
  have hbw := (hb.trans (h1.mono hb.size)).alloc (Nat.le_trans hb.size h1.size) (A4 r)
  replace rb := (rb.next h1).alloc (A4 r)
  replace ra := (ra.next h1).alloc (A4 r)
  clear h1 hb
  obtain ⟨y0, y1, y2, y3⟩ := rb.c4
  go_wp2_with (first | ((with_reducible refine gate_list .eql 25 ?_); refine wpList_eqlA 25 _ _ _ rfl rfl rfl rfl (guard4 _ _ _ _ _) (by first | with_reducible exact Q1.out _) ?_) | ((with_reducible refine gate_listG .eql 25 ?_); refine wpList_eqlG 25 _ _ _ rfl rfl rfl rfl (guard4 _ _ _ _ _) (by first | with_reducible exact Q1.out _) ?_) | ((with_reducible refine gate_wp .eql 25 ?_); refine wp_eqlA 25 _ _ _ rfl rfl rfl (guard4 _ _ _ _ _) (by first | with_reducible exact Q1.out _) ?_))
  clear y0 y1 y2 y3
  obtain ⟨w5, e5⟩ : ∃ w5, w5 = w3.alloc (A4 r) := ⟨_, rfl⟩
  rw [← e5] at ra rb rg hbw ⊢
  clear e5
  have HS : ∀ wz, Below w5.heap.size w5 wz → wz.cell? ⟨w.heap.size, 0, none⟩ = some (.int .u64 (wd a 0 : Int)) ∧ wz.cell? ⟨w.heap.size, 1, none⟩ = some (.int .u64 (wd a 1 : Int)) ∧ wz.cell? ⟨w.heap.size, 2, none⟩ = some (.int .u64 (wd a 2 : Int)) ∧ wz.cell? ⟨w.heap.size, 3, none⟩ = some (.int .u64 (wd a 3 : Int)) ∧ wz.cell? ⟨w.heap.size, 4, none⟩ = some (.int .u64 (wd a 4 : Int)) ∧ wz.cell? ⟨w.heap.size, 5, none⟩ = some (.int .u64 (wd a 5 : Int)) ∧ wz.cell? ⟨w.heap.size, 6, none⟩ = some (.int .u64 (wd a 6 : Int)) ∧ wz.cell? ⟨w.heap.size, 7, none⟩ = some (.int .u64 (wd a 7 : Int)) ∧ wz.cell? ⟨w.heap.size + 1, 0, none⟩ = some (.int .u64 (wd m 0 : Int)) ∧ wz.cell? ⟨w.heap.size + 1, 1, none⟩ = some (.int .u64 (wd m 1 : Int)) ∧ wz.cell? ⟨w.heap.size + 1, 2, none⟩ = some (.int .u64 (wd m 2 : Int)) ∧ wz.cell? ⟨w.heap.size + 1, 3, none⟩ = some (.int .u64 (wd m 3 : Int)) ∧ wz.cell? ⟨w3.heap.size, 0, none⟩ = some (.int .u64 (wd r 0 : Int)) ∧ wz.cell? ⟨w3.heap.size, 1, none⟩ = some (.int .u64 (wd r 1 : Int)) ∧ wz.cell? ⟨w3.heap.size, 2, none⟩ = some (.int .u64 (wd r 2 : Int)) ∧ wz.cell? ⟨w3.heap.size, 3, none⟩ = some (.int .u64 (wd r 3 : Int)) := fun wz hz => by
    obtain ⟨a0, a1, a2, a3, a4, a5, a6, a7⟩ := (ra.keep hz).c8
    obtain ⟨b0, b1, b2, b3⟩ := (rb.keep hz).c4
    obtain ⟨g0, g1, g2, g3⟩ := (rg.keep hz).c4
    exact ⟨a0, a1, a2, a3, a4, a5, a6, a7, b0, b1, b2, b3, g0, g1, g2, g3⟩
  have HS2 := Lib.hid HS
  obtain ⟨x0, x1, x2, x3, x4, x5, x6, x7, y0, y1, y2, y3, z0, z1, z2, z3⟩ := HS w5 (Below.refl _ _)
  have hq : w5.heap.size ≤ w5.heap.size := Nat.le_refl _
  have hc : Below w5.heap.size w5 w5.drew := (Below.refl _ w5).drew
  have qr := QR.out
  clear HS
  go_region_held3 (fun wz => wz.cell? ⟨w.heap.size, 0, none⟩ = some (.int .u64 (wd a 0 : Int)) ∧ wz.cell? ⟨w.heap.size, 1, none⟩ = some (.int .u64 (wd a 1 : Int)) ∧ wz.cell? ⟨w.heap.size, 2, none⟩ = some (.int .u64 (wd a 2 : Int)) ∧ wz.cell? ⟨w.heap.size, 3, none⟩ = some (.int .u64 (wd a 3 : Int)) ∧ wz.cell? ⟨w.heap.size, 4, none⟩ = some (.int .u64 (wd a 4 : Int)) ∧ wz.cell? ⟨w.heap.size, 5, none⟩ = some (.int .u64 (wd a 5 : Int)) ∧ wz.cell? ⟨w.heap.size, 6, none⟩ = some (.int .u64 (wd a 6 : Int)) ∧ wz.cell? ⟨w.heap.size, 7, none⟩ = some (.int .u64 (wd a 7 : Int)) ∧ wz.cell? ⟨w.heap.size + 1, 0, none⟩ = some (.int .u64 (wd m 0 : Int)) ∧ wz.cell? ⟨w.heap.size + 1, 1, none⟩ = some (.int .u64 (wd m 1 : Int)) ∧ wz.cell? ⟨w.heap.size + 1, 2, none⟩ = some (.int .u64 (wd m 2 : Int)) ∧ wz.cell? ⟨w.heap.size + 1, 3, none⟩ = some (.int .u64 (wd m 3 : Int)) ∧ wz.cell? ⟨w3.heap.size, 0, none⟩ = some (.int .u64 (wd r 0 : Int)) ∧ wz.cell? ⟨w3.heap.size, 1, none⟩ = some (.int .u64 (wd r 1 : Int)) ∧ wz.cell? ⟨w3.heap.size, 2, none⟩ = some (.int .u64 (wd r 2 : Int)) ∧ wz.cell? ⟨w3.heap.size, 3, none⟩ = some (.int .u64 (wd r 3 : Int)))
    (exact HS2.out _ hc)
    (first | (go_at_call 34; (with_reducible refine (words_dv ha _).mono ?_); rintro e wx ⟨Ax, cx, nx, rfl, dx, h9⟩; (try replace py := py.next h9); have px := dx.dig; have bx := Can.le64 dx.can ha; replace hc := hc.trans (h9.mono (Nat.le_trans hq hc.size)); clear dx) | (go_at_call 20; (with_reducible refine (digits_any hm _).mono ?_); rintro e wy ⟨Ay, cy, ny, rfl, dy, h9⟩; (try replace px := px.next h9); have py := dy.dig; have by_ := Can.le500 dy.can hm; replace hc := hc.trans (h9.mono (Nat.le_trans hq hc.size)); clear dy) | (go_at_call 33; (with_reducible refine (left_any _ px py (Nat.le_refl _) bx by_ h0).mono ?_); rintro e wt ⟨At, ct, nt, rfl, dt, h9⟩; rw [← HR.out] at dt; have pt := dt.dig; replace hc := hc.trans (h9.mono (Nat.le_trans hq hc.size)); clear dt px py) | (go_at_call 17; (with_reducible refine (of_any _ pt (Nat.le_refl _)).mono ?_); rintro e ww ⟨rfl, h9⟩; replace hc := hc.trans (h9.mono (Nat.le_trans hq hc.size))) | (go_at_call 14; (with_reducible refine (awake_any _).mono ?_); rintro e wa ⟨rfl, h9⟩; replace hc := hc.trans (h9.mono (Nat.le_trans hq hc.size))))
  all_goals
    go_wp2_with fail
    go_ret
    exact ⟨rfl, hbw.trans (hc.mono hbw.size)⟩
theorem left_walk {a m : Nat} (ha : a < W8) (hm : m < W4) (w : World) :
    Calls Try.prog 8 #[dv a, nv m] w fun e w' => e = .returned (.bool true) ∧ Below w.heap.size w w' := by
  by_cases h : m = 0
  · subst h; exact left_zero a w
  · exact left_pos ha hm (by omega) w
end Go.Proofs.Yticmkcipagmgmaa
