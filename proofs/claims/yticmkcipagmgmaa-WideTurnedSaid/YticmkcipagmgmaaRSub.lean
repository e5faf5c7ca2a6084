import Derived.Test.YticmkcipagmgmaaRAdd
namespace Go.Proofs.Yticmkcipagmgmaa
open Go Go.RowKit
attribute [local irreducible] wd by8
theorem can34 {n : Nat} (h : Can n W4) : n ≤ 1000 := by
  have h34 := h 34 (by rw [show (256 : Nat) ^ 34 = 256 ^ 32 * 256 ^ 2 from rfl, ← W4_256]; have := W4_pos; omega)
  omega
theorem can33 {n x : Nat} (h : Can n (x + W4)) (hx : x < W4) : n ≤ 1000 := by
  have h33 := h 33 (by rw [Nat.pow_succ, ← W4_256]; omega)
  omega
set_option maxRecDepth 20000 in
set_option maxHeartbeats 800000 in
theorem rsub_any {x y : Nat} (hx : x < W4) (hy : y < W4) (w : World) :
    Calls Try.prog 24 #[nv x, nv y] w fun e w' => e = .returned (.tuple #[nv (x + W4 - y), .int .u64 (bw x y 4 : Int)]) ∧ Below w.heap.size w w' := by
  obtain ⟨w3, e3, rx, ry, oz, s3, hb⟩ := start3 x y w
  unfold nv
  go_enter Try.func24, Try.ntmps24
  go_wp2_with fail
  rw [← e3]
  clear e3
  obtain ⟨x0, x1, x2, x3⟩ := rx.c4
  obtain ⟨y0, y1, y2, y3⟩ := ry.c4
  have HS : ∀ wz, Below (w.heap.size + 2) w3 wz → wz.cell? ⟨w.heap.size, 0, none⟩ = some (.int .u64 (wd x 0 : Int)) ∧ wz.cell? ⟨w.heap.size, 1, none⟩ = some (.int .u64 (wd x 1 : Int)) ∧ wz.cell? ⟨w.heap.size, 2, none⟩ = some (.int .u64 (wd x 2 : Int)) ∧ wz.cell? ⟨w.heap.size, 3, none⟩ = some (.int .u64 (wd x 3 : Int)) ∧ wz.cell? ⟨w.heap.size + 1, 0, none⟩ = some (.int .u64 (wd y 0 : Int)) ∧ wz.cell? ⟨w.heap.size + 1, 1, none⟩ = some (.int .u64 (wd y 1 : Int)) ∧ wz.cell? ⟨w.heap.size + 1, 2, none⟩ = some (.int .u64 (wd y 2 : Int)) ∧ wz.cell? ⟨w.heap.size + 1, 3, none⟩ = some (.int .u64 (wd y 3 : Int)) := fun wz hz => by
    obtain ⟨a0, a1, a2, a3⟩ := (rx.keep hz).c4
    obtain ⟨b0, b1, b2, b3⟩ := (ry.keep hz).c4
    exact ⟨a0, a1, a2, a3, b0, b1, b2, b3⟩
  have HS2 := Lib.hid HS
  have hq : w.heap.size + 3 ≤ w3.heap.size := by omega
  have hc : Below (w.heap.size + 3) w3 w3.drew := (Below.refl _ w3).drew
  clear HS
  go_region_held3 (fun wz => wz.cell? ⟨w.heap.size, 0, none⟩ = some (.int .u64 (wd x 0 : Int)) ∧ wz.cell? ⟨w.heap.size, 1, none⟩ = some (.int .u64 (wd x 1 : Int)) ∧ wz.cell? ⟨w.heap.size, 2, none⟩ = some (.int .u64 (wd x 2 : Int)) ∧ wz.cell? ⟨w.heap.size, 3, none⟩ = some (.int .u64 (wd x 3 : Int)) ∧ wz.cell? ⟨w.heap.size + 1, 0, none⟩ = some (.int .u64 (wd y 0 : Int)) ∧ wz.cell? ⟨w.heap.size + 1, 1, none⟩ = some (.int .u64 (wd y 1 : Int)) ∧ wz.cell? ⟨w.heap.size + 1, 2, none⟩ = some (.int .u64 (wd y 2 : Int)) ∧ wz.cell? ⟨w.heap.size + 1, 3, none⟩ = some (.int .u64 (wd y 3 : Int)))
    (exact HS2.out _ (by repeat (first | exact (Below.mono hc (Nat.le_succ _)) | (refine Below.setCell ?_ (by first | omega | (simp; done) | (simp; omega)) _) | (refine Below.alloc ?_ (by first | omega | (simp; done) | (simp; omega)) _) | refine Below.drew ?_)))
    (first | (go_at_call 20; (with_reducible refine (digits_any hx _).mono ?_); rintro e wx ⟨Ax, cx, nx, rfl, dx, h0⟩; (try replace py := py.next h0); (try replace pp := pp.next h0); have px := dx.dig; have bx := Can.le32 dx.can hx; replace hc := hc.trans (h0.mono (Nat.le_trans hq hc.size)); clear dx) | (go_at_call 20; (with_reducible refine (digits_any hy _).mono ?_); rintro e wy ⟨Ay, cy, ny, rfl, dy, h0⟩; (try replace px := px.next h0); (try replace pp := pp.next h0); (try replace ps := ps.next h0); have py := dy.dig; have by_ := Can.le32 dy.can hy; replace hc := hc.trans (h0.mono (Nat.le_trans hq hc.size)); clear dy) | (go_at_call 27; (with_reducible refine (less_any _ px py bx by_).mono ?_); rintro e wl ⟨rfl, rfl⟩))
  all_goals
    clear px py bx by_ h0
    obtain ⟨x0, x1, x2, x3, y0, y1, y2, y3⟩ := HS2.out _ (Below.mono hc (Nat.le_succ _))
    by_cases hlt : x < y
    · have hd : decide (x < y) = true := decide_eq_true hlt
      have hbw : bw x y 4 = 1 := by rw [bw_four hx hy, if_pos hlt]
      have HBW := Lib.hid hbw
      have hle : y ≤ x + W4 := by omega
      clear hbw
      go_wp2_with fail
      clear hd
      have hcd := hc.drew
      clear hc
      have hc := hcd
      clear hcd
      go_region_held3 (fun wz => wz.cell? ⟨w.heap.size, 0, none⟩ = some (.int .u64 (wd x 0 : Int)) ∧ wz.cell? ⟨w.heap.size, 1, none⟩ = some (.int .u64 (wd x 1 : Int)) ∧ wz.cell? ⟨w.heap.size, 2, none⟩ = some (.int .u64 (wd x 2 : Int)) ∧ wz.cell? ⟨w.heap.size, 3, none⟩ = some (.int .u64 (wd x 3 : Int)) ∧ wz.cell? ⟨w.heap.size + 1, 0, none⟩ = some (.int .u64 (wd y 0 : Int)) ∧ wz.cell? ⟨w.heap.size + 1, 1, none⟩ = some (.int .u64 (wd y 1 : Int)) ∧ wz.cell? ⟨w.heap.size + 1, 2, none⟩ = some (.int .u64 (wd y 2 : Int)) ∧ wz.cell? ⟨w.heap.size + 1, 3, none⟩ = some (.int .u64 (wd y 3 : Int)))
        (exact HS2.out _ (by repeat (first | exact (Below.mono hc (Nat.le_succ _)) | (refine Below.setCell ?_ (by first | omega | (simp; done) | (simp; omega)) _) | (refine Below.alloc ?_ (by first | omega | (simp; done) | (simp; omega)) _) | refine Below.drew ?_)))
        (first | (go_at_call 20; (with_reducible refine (digits_any hx _).mono ?_); rintro e wx ⟨Ax, cx, nx, rfl, dx, h0⟩; (try replace py := py.next h0); (try replace pp := pp.next h0); have px := dx.dig; have bx := Can.le32 dx.can hx; replace hc := hc.trans (h0.mono (Nat.le_trans hq hc.size)); clear dx) | (go_at_call 20; (with_reducible refine (digits_any hy _).mono ?_); rintro e wy ⟨Ay, cy, ny, rfl, dy, h0⟩; (try replace px := px.next h0); (try replace pp := pp.next h0); (try replace ps := ps.next h0); have py := dy.dig; have by_ := Can.le32 dy.can hy; replace hc := hc.trans (h0.mono (Nat.le_trans hq hc.size)); clear dy) | (go_at_call 41; (with_reducible refine (power_any _).mono ?_); rintro e wp ⟨Ap, cp, np, rfl, dp, h0⟩; (try replace px := px.next h0); (try replace py := py.next h0); have pp := dp.dig; have bp := can34 dp.can; replace hc := hc.trans (h0.mono (Nat.le_trans hq hc.size)); clear dp) | (go_at_call 40; (with_reducible refine (sum_any _ px pp (Nat.le_refl _) bx bp).mono ?_); rintro e ws ⟨As, cs, ns, rfl, ds, h0⟩; (try replace py := py.next h0); have ps := ds.dig; have bs := can33 ds.can hx; replace hc := hc.trans (h0.mono (Nat.le_trans hq hc.size)); clear ds) | (go_at_call 42; (with_reducible refine (minus_any _ ps py (Nat.le_refl _) bs hle).mono ?_); rintro e wm ⟨Am, cm, nm, rfl, dm, h0⟩; have pm := dm.dig; replace hc := hc.trans (h0.mono (Nat.le_trans hq hc.size)); clear dm) | (go_at_call 17; (with_reducible refine (of_any _ pm (Nat.le_refl _)).mono ?_); rintro e wo ⟨rfl, h0⟩; replace hc := hc.trans (h0.mono (Nat.le_trans hq hc.size)); have oz' := oz.keepAt hc; have c0 := (oz').cell (k := 0) (by decide); have c1 := (oz').cell (k := 1) (by decide); have c2 := (oz').cell (k := 2) (by decide); have c3 := (oz').cell (k := 3) (by decide); have d0 := (oz').cell (k := 0) (by decide); have d1 := (oz').cell (k := 1) (by decide); have d2 := (oz').cell (k := 2) (by decide); have d3 := (oz').cell (k := 3) (by decide); have f0 := (oz').free 0; have f1 := (oz').free 1; have f2 := (oz').free 2; have f3 := (oz').free 3))
      all_goals
        obtain ⟨wz, ez, r0, r1, r2, r3, rb⟩ := set4 (oz.keepAt hc) (.int .u64 (wd (x + W4 - y) 0 : Int)) (.int .u64 (wd (x + W4 - y) 1 : Int)) (.int .u64 (wd (x + W4 - y) 2 : Int)) (.int .u64 (wd (x + W4 - y) 3 : Int))
        go_wp2_with fail
        rw [← ez]
        refine bodyPost_ret (v := .tuple #[.agg #[.int .u64 (wd (x + W4 - y) 0 : Int), .int .u64 (wd (x + W4 - y) 1 : Int), .int .u64 (wd (x + W4 - y) 2 : Int), .int .u64 (wd (x + W4 - y) 3 : Int)], .int .u64 1]) (by simp [results, Try.results24, go_sem, r0, r1, r2, r3]) rfl ⟨by rw [HBW.out]; rfl, (hb.trans (hc.mono (by omega))).trans rb⟩
    · have hd : decide (x < y) = false := decide_eq_false hlt
      have hbw : bw x y 4 = 0 := by rw [bw_four hx hy, if_neg hlt]
      have HBW := Lib.hid hbw
      have hle : y ≤ x := by omega
      have hDw : ∀ k, k < 4 → wd (x - y) k = wd (x + W4 - y) k := fun k hk => by rw [show x + W4 - y = x - y + W4 by omega, wd_add_W4 _ hk]
      have HDw := Lib.hid hDw
      clear hbw hDw
      go_wp2_with fail
      clear hd
      have hcd := hc.drew
      clear hc
      have hc := hcd
      clear hcd
      go_region_held3 (fun wz => wz.cell? ⟨w.heap.size, 0, none⟩ = some (.int .u64 (wd x 0 : Int)) ∧ wz.cell? ⟨w.heap.size, 1, none⟩ = some (.int .u64 (wd x 1 : Int)) ∧ wz.cell? ⟨w.heap.size, 2, none⟩ = some (.int .u64 (wd x 2 : Int)) ∧ wz.cell? ⟨w.heap.size, 3, none⟩ = some (.int .u64 (wd x 3 : Int)) ∧ wz.cell? ⟨w.heap.size + 1, 0, none⟩ = some (.int .u64 (wd y 0 : Int)) ∧ wz.cell? ⟨w.heap.size + 1, 1, none⟩ = some (.int .u64 (wd y 1 : Int)) ∧ wz.cell? ⟨w.heap.size + 1, 2, none⟩ = some (.int .u64 (wd y 2 : Int)) ∧ wz.cell? ⟨w.heap.size + 1, 3, none⟩ = some (.int .u64 (wd y 3 : Int)))
        (exact HS2.out _ (by repeat (first | exact (Below.mono hc (Nat.le_succ _)) | (refine Below.setCell ?_ (by first | omega | (simp; done) | (simp; omega)) _) | (refine Below.alloc ?_ (by first | omega | (simp; done) | (simp; omega)) _) | refine Below.drew ?_)))
        (first | (go_at_call 20; (with_reducible refine (digits_any hx _).mono ?_); rintro e wx ⟨Ax, cx, nx, rfl, dx, h0⟩; (try replace py := py.next h0); (try replace pp := pp.next h0); have px := dx.dig; have bx := Can.le32 dx.can hx; replace hc := hc.trans (h0.mono (Nat.le_trans hq hc.size)); clear dx) | (go_at_call 20; (with_reducible refine (digits_any hy _).mono ?_); rintro e wy ⟨Ay, cy, ny, rfl, dy, h0⟩; (try replace px := px.next h0); (try replace pp := pp.next h0); (try replace ps := ps.next h0); have py := dy.dig; have by_ := Can.le32 dy.can hy; replace hc := hc.trans (h0.mono (Nat.le_trans hq hc.size)); clear dy) | (go_at_call 42; (with_reducible refine (minus_any _ px py (Nat.le_refl _) bx hle).mono ?_); rintro e wm ⟨Am, cm, nm, rfl, dm, h0⟩; have pm := dm.dig; replace hc := hc.trans (h0.mono (Nat.le_trans hq hc.size)); clear dm) | (go_at_call 17; (with_reducible refine (of_any _ pm (Nat.le_refl _)).mono ?_); rintro e wo ⟨rfl, h0⟩; replace hc := hc.trans (h0.mono (Nat.le_trans hq hc.size)); have oz' := oz.keepAt hc; have c0 := (oz').cell (k := 0) (by decide); have c1 := (oz').cell (k := 1) (by decide); have c2 := (oz').cell (k := 2) (by decide); have c3 := (oz').cell (k := 3) (by decide); have d0 := (oz').cell (k := 0) (by decide); have d1 := (oz').cell (k := 1) (by decide); have d2 := (oz').cell (k := 2) (by decide); have d3 := (oz').cell (k := 3) (by decide); have f0 := (oz').free 0; have f1 := (oz').free 1; have f2 := (oz').free 2; have f3 := (oz').free 3))
      all_goals
        obtain ⟨wz, ez, r0, r1, r2, r3, rb⟩ := set4 (oz.keepAt hc) (.int .u64 (wd (x - y) 0 : Int)) (.int .u64 (wd (x - y) 1 : Int)) (.int .u64 (wd (x - y) 2 : Int)) (.int .u64 (wd (x - y) 3 : Int))
        go_wp2_with fail
        rw [← ez]
        refine bodyPost_ret (v := .tuple #[.agg #[.int .u64 (wd (x - y) 0 : Int), .int .u64 (wd (x - y) 1 : Int), .int .u64 (wd (x - y) 2 : Int), .int .u64 (wd (x - y) 3 : Int)], .int .u64 0]) (by simp [results, Try.results24, go_sem, r0, r1, r2, r3]) rfl ⟨by rw [HBW.out, HDw.out 0 (by decide), HDw.out 1 (by decide), HDw.out 2 (by decide), HDw.out 3 (by decide)]; rfl, (hb.trans (hc.mono (by omega))).trans rb⟩
end Go.Proofs.Yticmkcipagmgmaa
