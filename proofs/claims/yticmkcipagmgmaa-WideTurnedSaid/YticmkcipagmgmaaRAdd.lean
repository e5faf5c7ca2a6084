import Derived.Test.YticmkcipagmgmaaRBit
namespace Go.Proofs.Yticmkcipagmgmaa
open Go Go.RowKit
attribute [local irreducible] wd by8
theorem start3 (x y : Nat) (w : World) : ∃ w3, w3 = (((w.alloc (A4 x)).alloc (A4 y)).alloc Z4) ∧ RdF w3 (w.heap.size + 2) (some ⟨w.heap.size, 0, none⟩) 4 4 (wv x) ∧
    RdF w3 (w.heap.size + 2) (some ⟨w.heap.size + 1, 0, none⟩) 4 4 (wv y) ∧
    OwnF w3 w.heap.size 25 (some ⟨w.heap.size + 2, 0, none⟩) 4 4 (fun _ => .int .u64 0) ∧ w3.heap.size = w.heap.size + 3 ∧ Below w.heap.size w w3 := by
  have s1 : (w.alloc (A4 x)).heap.size = w.heap.size + 1 := by simp
  have s2 : ((w.alloc (A4 x)).alloc (A4 y)).heap.size = w.heap.size + 2 := by simp
  have b1 := (Below.refl (w.heap.size + 1) (w.alloc (A4 x))).alloc (by omega) (A4 y)
  have b2 := (Below.refl (w.heap.size + 2) ((w.alloc (A4 x)).alloc (A4 y))).alloc (by omega) Z4
  have irx := (((own_A4 (w := w) (Nat.le_refl _) x).rd.mono (B' := w.heap.size + 1) (by omega)).keep (b1.trans (b2.mono (by omega)))).mono (B' := w.heap.size + 2) (by omega)
  have iry := ((own_A4 (w := w.alloc (A4 x)) (B := w.heap.size) (by omega) y).rd.mono (B' := w.heap.size + 2) (by omega)).keep b2
  have ioz := own_Z4 (w := (w.alloc (A4 x)).alloc (A4 y)) (B := w.heap.size) (by omega)
  have bb : Below w.heap.size w (((w.alloc (A4 x)).alloc (A4 y)).alloc Z4) := (((Below.refl _ w).alloc (by omega) _).alloc (by omega) _).alloc (by omega) _
  rw [s1] at iry
  rw [s2] at ioz
  exact ⟨_, rfl, irx, iry, ioz, by simp, bb⟩
theorem RdF.c4 {w : World} {B g x : Nat} (h : RdF w B (some ⟨g, 0, none⟩) 4 4 (wv x)) : w.cell? ⟨g, 0, none⟩ = some (.int .u64 (wd x 0 : Int)) ∧ w.cell? ⟨g, 1, none⟩ = some (.int .u64 (wd x 1 : Int)) ∧ w.cell? ⟨g, 2, none⟩ = some (.int .u64 (wd x 2 : Int)) ∧ w.cell? ⟨g, 3, none⟩ = some (.int .u64 (wd x 3 : Int)) :=
  ⟨h.cell0 (by decide), h.cell0 (by decide), h.cell0 (by decide), h.cell0 (by decide)⟩
theorem Can.le32 {n x : Nat} (h : Can n x) (hx : x < W4) : n ≤ 1000 := by have := h 32 (by rw [← W4_256]; exact hx); omega
set_option maxRecDepth 20000 in
set_option maxHeartbeats 800000 in
theorem radd_any {x y : Nat} (hx : x < W4) (hy : y < W4) (w : World) :
    Calls Try.prog 22 #[nv x, nv y] w fun e w' => e = .returned (.tuple #[nv (x + y), .int .u64 (cw x y 4 : Int)]) ∧ Below w.heap.size w w' := by
  obtain ⟨w3, e3, rx, ry, oz, s3, hb⟩ := start3 x y w
  unfold nv
  go_enter Try.func22, Try.ntmps22
  go_wp2_with fail
  rw [← e3]
  clear e3
  obtain ⟨x0, x1, x2, x3⟩ := rx.c4
  obtain ⟨y0, y1, y2, y3⟩ := ry.c4
  have HS : ∀ wz, Below (w.heap.size + 3) w3 wz → wz.cell? ⟨w.heap.size, 0, none⟩ = some (.int .u64 (wd x 0 : Int)) ∧ wz.cell? ⟨w.heap.size, 1, none⟩ = some (.int .u64 (wd x 1 : Int)) ∧ wz.cell? ⟨w.heap.size, 2, none⟩ = some (.int .u64 (wd x 2 : Int)) ∧ wz.cell? ⟨w.heap.size, 3, none⟩ = some (.int .u64 (wd x 3 : Int)) ∧ wz.cell? ⟨w.heap.size + 1, 0, none⟩ = some (.int .u64 (wd y 0 : Int)) ∧ wz.cell? ⟨w.heap.size + 1, 1, none⟩ = some (.int .u64 (wd y 1 : Int)) ∧ wz.cell? ⟨w.heap.size + 1, 2, none⟩ = some (.int .u64 (wd y 2 : Int)) ∧ wz.cell? ⟨w.heap.size + 1, 3, none⟩ = some (.int .u64 (wd y 3 : Int)) := fun wz hz => by
    obtain ⟨a0, a1, a2, a3⟩ := (rx.keep (hz.mono (by omega))).c4
    obtain ⟨b0, b1, b2, b3⟩ := (ry.keep (hz.mono (by omega))).c4
    exact ⟨a0, a1, a2, a3, b0, b1, b2, b3⟩
  have HS2 := Lib.hid HS
  have hq : w.heap.size + 3 ≤ w3.heap.size := by omega
  have hc : Below (w.heap.size + 3) w3 w3.drew := (Below.refl _ w3).drew
  clear HS
  go_region_held3 (fun wz => wz.cell? ⟨w.heap.size, 0, none⟩ = some (.int .u64 (wd x 0 : Int)) ∧ wz.cell? ⟨w.heap.size, 1, none⟩ = some (.int .u64 (wd x 1 : Int)) ∧ wz.cell? ⟨w.heap.size, 2, none⟩ = some (.int .u64 (wd x 2 : Int)) ∧ wz.cell? ⟨w.heap.size, 3, none⟩ = some (.int .u64 (wd x 3 : Int)) ∧ wz.cell? ⟨w.heap.size + 1, 0, none⟩ = some (.int .u64 (wd y 0 : Int)) ∧ wz.cell? ⟨w.heap.size + 1, 1, none⟩ = some (.int .u64 (wd y 1 : Int)) ∧ wz.cell? ⟨w.heap.size + 1, 2, none⟩ = some (.int .u64 (wd y 2 : Int)) ∧ wz.cell? ⟨w.heap.size + 1, 3, none⟩ = some (.int .u64 (wd y 3 : Int)))
    (first | exact HS2.out _ hc | go_keep)
    (first | (go_at_call 20; (with_reducible refine (digits_any hx _).mono ?_); rintro e wx ⟨Ax, cx, nx, rfl, dx, h0⟩; (try replace py := py.next h0); have px := dx.dig; replace hc := hc.trans (h0.mono (Nat.le_trans hq hc.size))) | (go_at_call 20; (with_reducible refine (digits_any hy _).mono ?_); rintro e wy ⟨Ay, cy, ny, rfl, dy, h0⟩; (try replace px := px.next h0); have py := dy.dig; replace hc := hc.trans (h0.mono (Nat.le_trans hq hc.size))) | (go_at_call 40; (with_reducible refine (sum_any _ px py (Nat.le_refl _) (Can.le32 dx.can hx) (Can.le32 dy.can hy)).mono ?_); rintro e ws ⟨As, cs, ns, rfl, ds, h0⟩; replace hc := hc.trans (h0.mono (Nat.le_trans hq hc.size))))
  all_goals
    clear px py dx dy h0
    have ps := ds.dig
    have hns : ns ≤ 1000 := by
      have h33 := ds.can 33 (by rw [Nat.pow_succ, ← W4_256]; omega)
      omega
    clear ds
    go_wp2_with fail
    go_at_call 41
    refine (power_any _).mono ?_
    rintro e wp ⟨Ap, cp, np, rfl, dp, h0⟩
    replace ps := ps.next h0
    have hnp : np ≤ 1000 := by
      have h34 := dp.can 34 (by rw [show (256 : Nat) ^ 34 = 256 ^ 32 * 256 ^ 2 from rfl, ← W4_256]; have := W4_pos; omega)
      omega
    have pp := dp.dig
    replace hc := hc.trans (h0.mono (Nat.le_trans hq hc.size))
    clear dp h0
    by_cases hlt : x + y < W4
    · have hd : decide (x + y < W4) = true := decide_eq_true hlt
      have hcw : cw x y 4 = 0 := by rw [cw_four hx hy]; exact Nat.div_eq_of_lt hlt
      have HCW := Lib.hid hcw
      clear hlt hcw
      go_wp2_with fail
      go_at_call 27
      refine (less_any _ ps pp hns hnp).mono ?_
      rintro e wl ⟨rfl, rfl⟩
      go_wp2_with fail
      go_at_call 17
      refine (of_any _ ps (Nat.le_refl _)).mono ?_
      rintro e wo ⟨rfl, h0⟩
      replace hc := hc.trans (h0.mono (Nat.le_trans hq hc.size))
      clear h0
      have oz' := oz.keepAt hc
      have c0 := (oz').cell (k := 0) (by decide)
      have c1 := (oz').cell (k := 1) (by decide)
      have c2 := (oz').cell (k := 2) (by decide)
      have c3 := (oz').cell (k := 3) (by decide)
      have d0 := (oz').cell (k := 0) (by decide)
      have d1 := (oz').cell (k := 1) (by decide)
      have d2 := (oz').cell (k := 2) (by decide)
      have d3 := (oz').cell (k := 3) (by decide)
      have f0 := (oz').free 0
      have f1 := (oz').free 1
      have f2 := (oz').free 2
      have f3 := (oz').free 3
      obtain ⟨wz, ez, r0, r1, r2, r3, rb⟩ := set4 oz' (.int .u64 (wd (x + y) 0 : Int)) (.int .u64 (wd (x + y) 1 : Int)) (.int .u64 (wd (x + y) 2 : Int)) (.int .u64 (wd (x + y) 3 : Int))
      go_wp2_with fail
      rw [← ez]
      refine bodyPost_ret (v := .tuple #[.agg #[.int .u64 (wd (x + y) 0 : Int), .int .u64 (wd (x + y) 1 : Int), .int .u64 (wd (x + y) 2 : Int), .int .u64 (wd (x + y) 3 : Int)], .int .u64 0]) (by simp [results, Try.results22, go_sem, r0, r1, r2, r3]) rfl ⟨by rw [HCW.out]; rfl, (hb.trans (hc.mono (by omega))).trans rb⟩
    · have hd : decide (x + y < W4) = false := decide_eq_false hlt
      have hcw : cw x y 4 = 1 := by
        rw [cw_four hx hy, Nat.div_eq_of_lt_le] <;> omega
      have HCW := Lib.hid hcw
      have hle : W4 ≤ x + y := by omega
      obtain ⟨D, hD⟩ : ∃ D, D = x + y - W4 := ⟨_, rfl⟩
      have hDw : ∀ k, k < 4 → wd D k = wd (x + y) k := fun k hk => by rw [hD, ← wd_add_W4 _ hk, Nat.sub_add_cancel hle]
      have HDw := Lib.hid hDw
      clear hlt hcw hDw
      go_wp2_with fail
      go_at_call 27
      refine (less_any _ ps pp hns hnp).mono ?_
      rintro e wl ⟨rfl, rfl⟩
      go_wp2_with fail
      go_at_call 41
      refine (power_any _).mono ?_
      rintro e wq ⟨Aq, cq, nq, rfl, dq, h0⟩
      replace ps := ps.next h0
      have pq := dq.dig
      replace hc := hc.trans (h0.mono (Nat.le_trans hq hc.size))
      clear dq h0 pp
      go_wp2_with fail
      go_at_call 42
      refine (minus_any _ ps pq (Nat.le_refl _) hns hle).mono ?_
      rintro e wm ⟨Am, cm, nm, rfl, dm, h0⟩
      rw [← hD] at dm
      clear hD
      have pm := dm.dig
      replace hc := hc.trans (h0.mono (Nat.le_trans hq hc.size))
      clear dm h0 ps pq
      go_wp2_with fail
      go_at_call 17
      refine (of_any _ pm (Nat.le_refl _)).mono ?_
      rintro e wo ⟨rfl, h0⟩
      replace hc := hc.trans (h0.mono (Nat.le_trans hq hc.size))
      clear h0
      have oz' := oz.keepAt hc
      have c0 := (oz').cell (k := 0) (by decide)
      have c1 := (oz').cell (k := 1) (by decide)
      have c2 := (oz').cell (k := 2) (by decide)
      have c3 := (oz').cell (k := 3) (by decide)
      have d0 := (oz').cell (k := 0) (by decide)
      have d1 := (oz').cell (k := 1) (by decide)
      have d2 := (oz').cell (k := 2) (by decide)
      have d3 := (oz').cell (k := 3) (by decide)
      have f0 := (oz').free 0
      have f1 := (oz').free 1
      have f2 := (oz').free 2
      have f3 := (oz').free 3
      obtain ⟨wz, ez, r0, r1, r2, r3, rb⟩ := set4 oz' (.int .u64 (wd D 0 : Int)) (.int .u64 (wd D 1 : Int)) (.int .u64 (wd D 2 : Int)) (.int .u64 (wd D 3 : Int))
      go_wp2_with fail
      rw [← ez]
      refine bodyPost_ret (v := .tuple #[.agg #[.int .u64 (wd D 0 : Int), .int .u64 (wd D 1 : Int), .int .u64 (wd D 2 : Int), .int .u64 (wd D 3 : Int)], .int .u64 1]) (by simp [results, Try.results22, go_sem, r0, r1, r2, r3]) rfl ⟨by rw [HCW.out, HDw.out 0 (by decide), HDw.out 1 (by decide), HDw.out 2 (by decide), HDw.out 3 (by decide)]; rfl, (hb.trans (hc.mono (by omega))).trans rb⟩
end Go.Proofs.Yticmkcipagmgmaa
