import Derived.Test.YticmkcipagmgmaaL7
import Derived.Deep.DeepCutAuto
namespace Go.Proofs.Yticmkcipagmgmaa
open Go Go.RowKit
attribute [local irreducible] wd by8
set_option warningAsError false in
set_option maxRecDepth 20000 in
set_option maxHeartbeats 3200000 in
theorem orders_eq_nz {x y : Nat} (hx : x < W4) (hy : y < W4) (hxy : x = y) {i : Int} (hi : i ≠ 0) (hir : -9223372036854775808 ≤ i ∧ i ≤ 9223372036854775807) (w : World) :
    Calls Try.prog 7 #[nv x, nv y, .int .i64 i] w fun e w' => e = .returned (.bool true) ∧ Below w.heap.size w w' := by
  obtain ⟨w2, e2, ra, rb, hbw⟩ := start2 x y w
  have kp := fun w => pick_any (uw (i)) x y (uw_lt _) w
  rw [if_neg (fun h => hi ((uw_zero hir).1 h)), ← uw_wrap] at kp
  have kc := fun w => comp_any x y hx hy w
  have hcmp : (if x = y then (0 : Int) else if x < y then -1 else 1) = 0 := by rw [if_pos hxy]
  rw [hcmp] at kc
  have kb := fun w => bit_any x (i) w
  have kr := fun w => rbit_any hx (i) w
  generalize bi x (i) = bb at kb kr
  have d1 : decide (x < y) = false := by simp; omega
  have d2 : decide (y < x) = false := by simp; omega
  have kl1 : ∀ (w : World) {A A' : Option Addr} {B c c' n n' : Nat}, Dig w B A c n x → Dig w B A' c' n' y → n ≤ 1000 → n' ≤ 1000 → Calls Try.prog 27 #[.slice A n c, .slice A' n' c'] w fun e w' => e = .returned (.bool false) ∧ w' = w := fun w _ _ _ _ _ _ _ h h' hn hn' => by
    have := less_any w h h' hn hn'
    rw [d1] at this
    exact this
  have kl2 : ∀ (w : World) {A A' : Option Addr} {B c c' n n' : Nat}, Dig w B A c n y → Dig w B A' c' n' x → n ≤ 1000 → n' ≤ 1000 → Calls Try.prog 27 #[.slice A n c, .slice A' n' c'] w fun e w' => e = .returned (.bool false) ∧ w' = w := fun w _ _ _ _ _ _ _ h h' hn hn' => by
    have := less_any w h h' hn hn'
    rw [d2] at this
    exact this
  clear d1 d2 hcmp hxy
  have q1 := eq4_self y
  unfold nv at q1 ⊢
  have Q1 := Lib.hid q1
  clear q1
  have gi : (i == 0) = false := by simp [hi]
  have gn : (i != 0) = true := by simp [hi]
  clear hi hir
  go_enter Try.func7, Try.ntmps7
  go_upto_region 2 with fail
  rw [← e2]
  clear e2
  have HS : ∀ wz, Below w2.heap.size w2 wz → wz.cell? ⟨w.heap.size, 0, none⟩ = some (.int .u64 (wd x 0 : Int)) ∧ wz.cell? ⟨w.heap.size, 1, none⟩ = some (.int .u64 (wd x 1 : Int)) ∧ wz.cell? ⟨w.heap.size, 2, none⟩ = some (.int .u64 (wd x 2 : Int)) ∧ wz.cell? ⟨w.heap.size, 3, none⟩ = some (.int .u64 (wd x 3 : Int)) ∧ wz.cell? ⟨w.heap.size + 1, 0, none⟩ = some (.int .u64 (wd y 0 : Int)) ∧ wz.cell? ⟨w.heap.size + 1, 1, none⟩ = some (.int .u64 (wd y 1 : Int)) ∧ wz.cell? ⟨w.heap.size + 1, 2, none⟩ = some (.int .u64 (wd y 2 : Int)) ∧ wz.cell? ⟨w.heap.size + 1, 3, none⟩ = some (.int .u64 (wd y 3 : Int)) := fun wz hz => by
    obtain ⟨a0, a1, a2, a3⟩ := (ra.keep hz).c4
    obtain ⟨b0, b1, b2, b3⟩ := (rb.keep hz).c4
    exact ⟨a0, a1, a2, a3, b0, b1, b2, b3⟩
  have HS2 := Lib.hid HS
  clear HS
  go_cut [13] from 9 to 13 (fun b wx => b = .bool false ∧ Below w2.heap.size w2 wx)
  case first =>
    obtain ⟨x0, x1, x2, x3, y0, y1, y2, y3⟩ := HS2.out w2 (Below.refl _ _)
    have hc : Below w2.heap.size w2 w2.drew := (Below.refl _ w2).drew
    go_region_held3 (fun wz => wz.cell? ⟨w.heap.size, 0, none⟩ = some (.int .u64 (wd x 0 : Int)) ∧ wz.cell? ⟨w.heap.size, 1, none⟩ = some (.int .u64 (wd x 1 : Int)) ∧ wz.cell? ⟨w.heap.size, 2, none⟩ = some (.int .u64 (wd x 2 : Int)) ∧ wz.cell? ⟨w.heap.size, 3, none⟩ = some (.int .u64 (wd x 3 : Int)) ∧ wz.cell? ⟨w.heap.size + 1, 0, none⟩ = some (.int .u64 (wd y 0 : Int)) ∧ wz.cell? ⟨w.heap.size + 1, 1, none⟩ = some (.int .u64 (wd y 1 : Int)) ∧ wz.cell? ⟨w.heap.size + 1, 2, none⟩ = some (.int .u64 (wd y 2 : Int)) ∧ wz.cell? ⟨w.heap.size + 1, 3, none⟩ = some (.int .u64 (wd y 3 : Int)))
      (exact HS2.out _ hc)
      (first | (go_at_call 20; (with_reducible refine (digits_any hx _).mono ?_); rintro e wx ⟨Ax, cx, nx, rfl, dx, h1⟩; (try replace py := py.next h1); have px := dx.dig; have bx := Can.le32 dx.can hx; replace hc := hc.trans (h1.mono hc.size); clear dx) | (go_at_call 20; (with_reducible refine (digits_any hy _).mono ?_); rintro e wy ⟨Ay, cy, ny, rfl, dy, h1⟩; (try replace px := px.next h1); have py := dy.dig; have by_ := Can.le32 dy.can hy; replace hc := hc.trans (h1.mono hc.size); clear dy) | (go_at_call 27; (with_reducible refine (kl1 _ px py bx by_).mono ?_); rintro e wl ⟨rfl, rfl⟩))
    all_goals
      go_wp2_with fail
      go_meet
      exact ⟨rfl, hc⟩
  case rest =>
    obtain ⟨rfl, hc⟩ := hcut
    go_upto_region 4 with fail
    go_cut [18] from 14 to 18 (fun b wx => b = .bool false ∧ Below w2.heap.size w2 wx)
    case first =>
      obtain ⟨x0, x1, x2, x3, y0, y1, y2, y3⟩ := HS2.out _ hc
      replace hc := hc.drew
      go_region_held3 (fun wz => wz.cell? ⟨w.heap.size, 0, none⟩ = some (.int .u64 (wd x 0 : Int)) ∧ wz.cell? ⟨w.heap.size, 1, none⟩ = some (.int .u64 (wd x 1 : Int)) ∧ wz.cell? ⟨w.heap.size, 2, none⟩ = some (.int .u64 (wd x 2 : Int)) ∧ wz.cell? ⟨w.heap.size, 3, none⟩ = some (.int .u64 (wd x 3 : Int)) ∧ wz.cell? ⟨w.heap.size + 1, 0, none⟩ = some (.int .u64 (wd y 0 : Int)) ∧ wz.cell? ⟨w.heap.size + 1, 1, none⟩ = some (.int .u64 (wd y 1 : Int)) ∧ wz.cell? ⟨w.heap.size + 1, 2, none⟩ = some (.int .u64 (wd y 2 : Int)) ∧ wz.cell? ⟨w.heap.size + 1, 3, none⟩ = some (.int .u64 (wd y 3 : Int)))
        (exact HS2.out _ hc)
        (first | (go_at_call 20; (with_reducible refine (digits_any hx _).mono ?_); rintro e wx ⟨Ax, cx, nx, rfl, dx, h1⟩; (try replace py := py.next h1); have px := dx.dig; have bx := Can.le32 dx.can hx; replace hc := hc.trans (h1.mono hc.size); clear dx) | (go_at_call 20; (with_reducible refine (digits_any hy _).mono ?_); rintro e wy ⟨Ay, cy, ny, rfl, dy, h1⟩; (try replace px := px.next h1); have py := dy.dig; have by_ := Can.le32 dy.can hy; replace hc := hc.trans (h1.mono hc.size); clear dy) | (go_at_call 27; (with_reducible refine (kl2 _ py px by_ bx).mono ?_); rintro e wl ⟨rfl, rfl⟩))
      all_goals
        go_wp2_with fail
        go_meet
        exact ⟨rfl, hc⟩
    case rest =>
      clear hc
      obtain ⟨rfl, hc⟩ := hcut
      obtain ⟨x0, x1, x2, x3, y0, y1, y2, y3⟩ := HS2.out _ hc
      go_wp2_with fail
      go_at_call 28
      refine (kp _).mono ?_
      rintro e w9 ⟨rfl, h1⟩
      have rp := (own_A4 (w := w9) (Nat.le_refl _) y).rd
      replace hc := (hc.trans (h1.mono hc.size)).alloc (Nat.le_trans hc.size h1.size) (A4 y)
      clear h1 x0 x1 x2 x3 y0 y1 y2 y3
      go_wp2_with fail
      obtain ⟨w8, e8⟩ : ∃ w8, w8 = w9.alloc (A4 y) := ⟨_, rfl⟩
      rw [← e8] at rp hc ⊢
      clear e8
      have HT : ∀ wz, Below w8.heap.size w8 wz → wz.cell? ⟨w.heap.size, 0, none⟩ = some (.int .u64 (wd x 0 : Int)) ∧ wz.cell? ⟨w.heap.size, 1, none⟩ = some (.int .u64 (wd x 1 : Int)) ∧ wz.cell? ⟨w.heap.size, 2, none⟩ = some (.int .u64 (wd x 2 : Int)) ∧ wz.cell? ⟨w.heap.size, 3, none⟩ = some (.int .u64 (wd x 3 : Int)) ∧ wz.cell? ⟨w.heap.size + 1, 0, none⟩ = some (.int .u64 (wd y 0 : Int)) ∧ wz.cell? ⟨w.heap.size + 1, 1, none⟩ = some (.int .u64 (wd y 1 : Int)) ∧ wz.cell? ⟨w.heap.size + 1, 2, none⟩ = some (.int .u64 (wd y 2 : Int)) ∧ wz.cell? ⟨w.heap.size + 1, 3, none⟩ = some (.int .u64 (wd y 3 : Int)) ∧ wz.cell? ⟨w9.heap.size, 0, none⟩ = some (.int .u64 (wd y 0 : Int)) ∧ wz.cell? ⟨w9.heap.size, 1, none⟩ = some (.int .u64 (wd y 1 : Int)) ∧ wz.cell? ⟨w9.heap.size, 2, none⟩ = some (.int .u64 (wd y 2 : Int)) ∧ wz.cell? ⟨w9.heap.size, 3, none⟩ = some (.int .u64 (wd y 3 : Int)) := fun wz hz => by
        obtain ⟨a0, a1, a2, a3, b0, b1, b2, b3⟩ := HS2.out wz (hc.trans (hz.mono hc.size))
        obtain ⟨p0, p1, p2, p3⟩ := (rp.keep hz).c4
        exact ⟨a0, a1, a2, a3, b0, b1, b2, b3, p0, p1, p2, p3⟩
      have HT2 := Lib.hid HT
      obtain ⟨x0, x1, x2, x3, y0, y1, y2, y3, z0, z1, z2, z3⟩ := HT w8 (Below.refl _ _)
      have hd : Below w8.heap.size w8 w8.drew := (Below.refl _ w8).drew
      have q1 := Q1.out
      clear HT
      have hund : undef = Value.tuple #[] := rfl
      first | (go_region_held3 (fun wz => wz.cell? ⟨w.heap.size, 0, none⟩ = some (.int .u64 (wd x 0 : Int)) ∧ wz.cell? ⟨w.heap.size, 1, none⟩ = some (.int .u64 (wd x 1 : Int)) ∧ wz.cell? ⟨w.heap.size, 2, none⟩ = some (.int .u64 (wd x 2 : Int)) ∧ wz.cell? ⟨w.heap.size, 3, none⟩ = some (.int .u64 (wd x 3 : Int)) ∧ wz.cell? ⟨w.heap.size + 1, 0, none⟩ = some (.int .u64 (wd y 0 : Int)) ∧ wz.cell? ⟨w.heap.size + 1, 1, none⟩ = some (.int .u64 (wd y 1 : Int)) ∧ wz.cell? ⟨w.heap.size + 1, 2, none⟩ = some (.int .u64 (wd y 2 : Int)) ∧ wz.cell? ⟨w.heap.size + 1, 3, none⟩ = some (.int .u64 (wd y 3 : Int)) ∧ wz.cell? ⟨w9.heap.size, 0, none⟩ = some (.int .u64 (wd y 0 : Int)) ∧ wz.cell? ⟨w9.heap.size, 1, none⟩ = some (.int .u64 (wd y 1 : Int)) ∧ wz.cell? ⟨w9.heap.size, 2, none⟩ = some (.int .u64 (wd y 2 : Int)) ∧ wz.cell? ⟨w9.heap.size, 3, none⟩ = some (.int .u64 (wd y 3 : Int)))
        (exact HT2.out _ hd)
        (first | (go_at_call 29; (with_reducible refine (kc _).mono ?_); rintro e wa ⟨rfl, h1⟩; replace hd := hd.trans (h1.mono hd.size)) | (go_at_call 30; (with_reducible refine (kb _).mono ?_); rintro e wb ⟨rfl, h1⟩; replace hd := hd.trans (h1.mono hd.size)) | (go_at_call 31; (with_reducible refine (kr _).mono ?_); rintro e wd_ ⟨rfl, h1⟩; replace hd := hd.trans (h1.mono hd.size)) | (go_at_call 14; (with_reducible refine (awake_any _).mono ?_); rintro e we ⟨rfl, h1⟩; replace hd := hd.trans (h1.mono hd.size)))) | fail
      all_goals
        go_wp2_with fail
        go_ret
        exact ⟨rfl, hbw.trans ((hc.trans (hd.mono hc.size)).mono hbw.size)⟩
end Go.Proofs.Yticmkcipagmgmaa
