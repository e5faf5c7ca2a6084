import Derived.Test.YticmkcipagmgmaaEqOp
import Derived.Test.YticmkcipagmgmaaMul2
namespace Go.Proofs.Yticmkcipagmgmaa
open Go Go.RowKit
theorem start3D (x y z : Nat) (w : World) : ∃ w2, w2 = ((w.alloc (A8 x)).alloc (A4 y)).alloc (A4 z) ∧ RdF w2 w2.heap.size (some ⟨w.heap.size, 0, none⟩) 8 8 (wv x) ∧ RdF w2 w2.heap.size (some ⟨w.heap.size + 1, 0, none⟩) 4 4 (wv y) ∧ RdF w2 w2.heap.size (some ⟨w.heap.size + 2, 0, none⟩) 4 4 (wv z) ∧ Below w.heap.size w w2 := by
  have s1 : (w.alloc (A8 x)).heap.size = w.heap.size + 1 := by simp
  have s2 : ((w.alloc (A8 x)).alloc (A4 y)).heap.size = w.heap.size + 2 := by simp
  have ra := ((own_A8 (w := w) (Nat.le_refl _) x).rd.alloc (A4 y)).alloc (A4 z)
  have rb := (own_A4 (w := w.alloc (A8 x)) (Nat.le_refl _) y).rd.alloc (A4 z)
  have rc := (own_A4 (w := (w.alloc (A8 x)).alloc (A4 y)) (Nat.le_refl _) z).rd
  rw [s1] at rb
  rw [s2] at rc
  exact ⟨_, rfl, ra, rb, rc, (((Below.refl _ w).alloc (Nat.le_refl _) _).alloc (by omega) _).alloc (by omega) _⟩
theorem keepZ {W w' : World} (h : Below (W.alloc Z4).heap.size (W.alloc Z4) w') : OwnF w' W.heap.size 25 (some ⟨W.heap.size, 0, none⟩) 4 4 (fun _ => .int .u64 0) := (own_Z4 (w := W) (Nat.le_refl _)).keep h
theorem keepZd {W w' : World} (h : Below (W.alloc Z4).drew.heap.size (W.alloc Z4).drew w') : OwnF w' W.heap.size 25 (some ⟨W.heap.size, 0, none⟩) 4 4 (fun _ => .int .u64 0) := ((own_Z4 (w := W) (Nat.le_refl _)).drew).keep h
theorem put4e {w : World} {B g : Nat} {e : TypeId} {f : Nat → Value} (h : OwnF w B e (some ⟨g, 0, none⟩) 4 4 f) (z : Nat) :
    ∃ v, v = ((((w.setCell ⟨g, 0, none⟩ (.int .u64 (wd z 0 : Int))).setCell ⟨g, 1, none⟩ (.int .u64 (wd z 1 : Int))).setCell ⟨g, 2, none⟩ (.int .u64 (wd z 2 : Int))).setCell ⟨g, 3, none⟩ (.int .u64 (wd z 3 : Int))) ∧ OwnF v B e (some ⟨g, 0, none⟩) 4 4 (wv z) ∧ Below g w v :=
  ⟨_, rfl, (put4 h z).1, (put4 h z).2⟩
theorem dv_low {r : Nat} (hr : r < W4) : dv r = .agg #[.int .u64 (wd r 0 : Int), .int .u64 (wd r 1 : Int), .int .u64 (wd r 2 : Int), .int .u64 (wd r 3 : Int), .int .u64 0, .int .u64 0, .int .u64 0, .int .u64 0] := by
  have h : ∀ k, 4 ≤ k → wd r k = 0 := fun k hk => dgt_zero_of_lt (Nat.lt_of_lt_of_le hr (Nat.pow_le_pow_right (by decide) hk))
  unfold dv
  rw [h 4 (by decide), h 5 (by decide), h 6 (by decide), h 7 (by decide)]
  rfl
attribute [local irreducible] wd by8
set_option maxRecDepth 20000 in
set_option maxHeartbeats 800000 in
theorem below_zero (a b : Nat) (w : World) :
    Calls Try.prog 11 #[dv a, nv b, nv 0] w fun e w' => e = .returned (.bool true) ∧ Below w.heap.size w w' := by
  obtain ⟨w2, e2, ra, rb, rc, hb⟩ := start3D a b 0 w
  have q1 := eq4z 0 W4_pos
  have hd : decide ((0 : Nat) = 0) = true := rfl
  rw [hd] at q1
  unfold nv dv
  unfold nv at q1
  have Q1 := Lib.hid q1
  clear q1 hd
  go_enter Try.func11, Try.ntmps11
  go_wp2_with fail
  rw [← e2]
  clear e2
  go_at_call 32
  refine (mod_zero a _).mono ?_
  rintro e w3 ⟨rfl, h0⟩
  have rg := (own_A4 (w := w3) (Nat.le_refl _) 0).rd
  have hc := (hb.trans (h0.mono hb.size)).alloc (Nat.le_trans hb.size h0.size) (A4 0)
  replace rc := (rc.next h0).alloc (A4 0)
  obtain ⟨b0, b1, b2, b3⟩ := rc.c4
  obtain ⟨g0, g1, g2, g3⟩ := rg.c4
  go_wp2_with (first | ((with_reducible refine gate_list .eql 25 ?_); refine wpList_eqlA 25 _ _ _ rfl rfl rfl rfl (guard4 _ _ _ _ _) (by first | with_reducible exact Q1.out _) ?_) | ((with_reducible refine gate_listG .eql 25 ?_); refine wpList_eqlG 25 _ _ _ rfl rfl rfl rfl (guard4 _ _ _ _ _) (by first | with_reducible exact Q1.out _) ?_) | ((with_reducible refine gate_wp .eql 25 ?_); refine wp_eqlA 25 _ _ _ rfl rfl rfl (guard4 _ _ _ _ _) (by first | with_reducible exact Q1.out _) ?_))
  go_at_call 14
  refine (awake_any _).mono ?_
  rintro e w4 ⟨rfl, h1⟩
  replace hc := hc.trans (h1.mono hc.size)
  go_wp2_with fail
  go_ret
  exact ⟨rfl, hc⟩
set_option maxRecDepth 20000 in
set_option maxHeartbeats 1600000 in
theorem below_pos {a b m : Nat} (ha : a < W8) (hb : b < W4) (hm : m < W4) (h0 : 0 < m) (w : World) :
    Calls Try.prog 11 #[dv a, nv b, nv m] w fun e w' => e = .returned (.bool true) ∧ Below w.heap.size w w' := by
  obtain ⟨w2, e2, ra, rb, rc, hbw⟩ := start3D a b m w
  have km := fun w => mod_any ha hm h0 w
  have hrm := Nat.mod_lt a h0
  obtain ⟨r, hr⟩ : ∃ r, r = a % m := ⟨_, rfl⟩
  rw [← hr] at km hrm
  have hrW : r < W4 := Nat.lt_trans hrm hm
  have kr := fun w => mod_any (a := r) (m := m) (Nat.lt_trans hrW (by decide +kernel)) hm h0 w
  rw [Nat.mod_eq_of_lt hrm, dv_low hrW] at kr
  have kz := fun w => mod_any (a := b * m) (m := m) (by rw [W8_eq]; exact Nat.mul_lt_mul_of_lt_of_le hb (Nat.le_of_lt hm) W4_pos) hm h0 w
  rw [Nat.mul_mod_left] at kz
  have kl := fun w => mul_any b m hb hm w
  have kc := fun w => comp_any r m hrW hm w
  rw [if_neg (Nat.ne_of_lt hrm), if_pos hrm] at kc
  generalize b * m = p at kz kl
  have q1 := eq4_self r
  have q2 := eq4z 0 W4_pos
  rw [decide_eq_true rfl] at q2
  unfold nv at q1 q2
  have Q1 := Lib.hid q1
  have Q2 := Lib.hid q2
  clear q1 q2
  unfold nv dv
  clear hr
  go_enter Try.func11, Try.ntmps11
  go_wp2_with fail
  rw [← e2]
  clear e2
  go_at_call 32
  refine (km _).mono ?_
  rintro e w3 ⟨rfl, h1⟩
  have rg := (own_A4 (w := w3) (Nat.le_refl _) r).rd
  replace hbw := (hbw.trans (h1.mono hbw.size)).alloc (Nat.le_trans hbw.size h1.size) (A4 r)
  replace rb := (rb.next h1).alloc (A4 r)
  replace rc := (rc.next h1).alloc (A4 r)
  clear h1 ra
  obtain ⟨y0, y1, y2, y3⟩ := rc.c4
  obtain ⟨z0, z1, z2, z3⟩ := rg.c4
  go_wp2_with fail
  clear y0 y1 y2 y3 z0 z1 z2 z3
  go_at_call 32
  refine (kr _).mono ?_
  rintro e w4 ⟨rfl, h1⟩
  have rh := (own_A4 (w := w4) (Nat.le_refl _) r).rd
  replace hbw := (hbw.trans (h1.mono hbw.size)).alloc (Nat.le_trans hbw.size h1.size) (A4 r)
  replace rb := (rb.next h1).alloc (A4 r)
  replace rc := (rc.next h1).alloc (A4 r)
  replace rg := (rg.next h1).alloc (A4 r)
  clear h1
  go_wp2_with fail
  obtain ⟨w5, e5⟩ : ∃ w5, w5 = w4.alloc (A4 r) := ⟨_, rfl⟩
  rw [← e5] at rb rc rg rh hbw ⊢
  clear e5
  have HS : ∀ wz, Below w5.heap.size w5 wz → wz.cell? ⟨w.heap.size + 1, 0, none⟩ = some (.int .u64 (wd b 0 : Int)) ∧ wz.cell? ⟨w.heap.size + 1, 1, none⟩ = some (.int .u64 (wd b 1 : Int)) ∧ wz.cell? ⟨w.heap.size + 1, 2, none⟩ = some (.int .u64 (wd b 2 : Int)) ∧ wz.cell? ⟨w.heap.size + 1, 3, none⟩ = some (.int .u64 (wd b 3 : Int)) ∧ wz.cell? ⟨w.heap.size + 2, 0, none⟩ = some (.int .u64 (wd m 0 : Int)) ∧ wz.cell? ⟨w.heap.size + 2, 1, none⟩ = some (.int .u64 (wd m 1 : Int)) ∧ wz.cell? ⟨w.heap.size + 2, 2, none⟩ = some (.int .u64 (wd m 2 : Int)) ∧ wz.cell? ⟨w.heap.size + 2, 3, none⟩ = some (.int .u64 (wd m 3 : Int)) ∧ wz.cell? ⟨w3.heap.size, 0, none⟩ = some (.int .u64 (wd r 0 : Int)) ∧ wz.cell? ⟨w3.heap.size, 1, none⟩ = some (.int .u64 (wd r 1 : Int)) ∧ wz.cell? ⟨w3.heap.size, 2, none⟩ = some (.int .u64 (wd r 2 : Int)) ∧ wz.cell? ⟨w3.heap.size, 3, none⟩ = some (.int .u64 (wd r 3 : Int)) ∧ wz.cell? ⟨w4.heap.size, 0, none⟩ = some (.int .u64 (wd r 0 : Int)) ∧ wz.cell? ⟨w4.heap.size, 1, none⟩ = some (.int .u64 (wd r 1 : Int)) ∧ wz.cell? ⟨w4.heap.size, 2, none⟩ = some (.int .u64 (wd r 2 : Int)) ∧ wz.cell? ⟨w4.heap.size, 3, none⟩ = some (.int .u64 (wd r 3 : Int)) := fun wz hz => by
    obtain ⟨b0, b1, b2, b3⟩ := (rb.keep hz).c4
    obtain ⟨c0, c1, c2, c3⟩ := (rc.keep hz).c4
    obtain ⟨g0, g1, g2, g3⟩ := (rg.keep hz).c4
    obtain ⟨h0, h1, h2, h3⟩ := (rh.keep hz).c4
    exact ⟨b0, b1, b2, b3, c0, c1, c2, c3, g0, g1, g2, g3, h0, h1, h2, h3⟩
  have HS2 := Lib.hid HS
  obtain ⟨b0, b1, b2, b3, c0, c1, c2, c3, g0, g1, g2, g3, h0_, h1_, h2_, h3_⟩ := HS w5 (Below.refl _ _)
  have hc : Below w5.heap.size w5 w5.drew := (Below.refl _ w5).drew
  have hcs : w5.heap.size ≤ w5.drew.heap.size := Nat.le_refl _
  clear HS
  go_region_held3 (fun wz => wz.cell? ⟨w.heap.size + 1, 0, none⟩ = some (.int .u64 (wd b 0 : Int)) ∧ wz.cell? ⟨w.heap.size + 1, 1, none⟩ = some (.int .u64 (wd b 1 : Int)) ∧ wz.cell? ⟨w.heap.size + 1, 2, none⟩ = some (.int .u64 (wd b 2 : Int)) ∧ wz.cell? ⟨w.heap.size + 1, 3, none⟩ = some (.int .u64 (wd b 3 : Int)) ∧ wz.cell? ⟨w.heap.size + 2, 0, none⟩ = some (.int .u64 (wd m 0 : Int)) ∧ wz.cell? ⟨w.heap.size + 2, 1, none⟩ = some (.int .u64 (wd m 1 : Int)) ∧ wz.cell? ⟨w.heap.size + 2, 2, none⟩ = some (.int .u64 (wd m 2 : Int)) ∧ wz.cell? ⟨w.heap.size + 2, 3, none⟩ = some (.int .u64 (wd m 3 : Int)) ∧ wz.cell? ⟨w3.heap.size, 0, none⟩ = some (.int .u64 (wd r 0 : Int)) ∧ wz.cell? ⟨w3.heap.size, 1, none⟩ = some (.int .u64 (wd r 1 : Int)) ∧ wz.cell? ⟨w3.heap.size, 2, none⟩ = some (.int .u64 (wd r 2 : Int)) ∧ wz.cell? ⟨w3.heap.size, 3, none⟩ = some (.int .u64 (wd r 3 : Int)) ∧ wz.cell? ⟨w4.heap.size, 0, none⟩ = some (.int .u64 (wd r 0 : Int)) ∧ wz.cell? ⟨w4.heap.size, 1, none⟩ = some (.int .u64 (wd r 1 : Int)) ∧ wz.cell? ⟨w4.heap.size, 2, none⟩ = some (.int .u64 (wd r 2 : Int)) ∧ wz.cell? ⟨w4.heap.size, 3, none⟩ = some (.int .u64 (wd r 3 : Int)))
    (first | exact HS2.out _ hc | exact HS2.out _ (hc.alloc hcs _) | exact HS2.out _ (by repeat (first | exact hc | (refine Below.setCell ?_ (by first | omega | (simp; done) | (simp; omega)) _) | (refine Below.alloc ?_ (by first | omega | (simp; done) | (simp; omega)) _) | refine Below.drew ?_)))
    (first | (go_at_call 25; (with_reducible refine (kl _).mono ?_); rintro e wm ⟨rfl, h1⟩; (first | (replace ob := ob.keep h1) | (have ob := keepZd h1; have hgW := Nat.le_refl w5.heap.size) | (have ob := keepZ h1; have hgW := hcs) | skip); (first | (replace hc := (hc.alloc hcs Z4).trans (h1.mono (Nat.le_trans hcs (by simp)))) | (replace hc := hc.trans (h1.mono hcs))); replace hcs := hc.size) | (go_at_call 32; (with_reducible refine (kz _).mono ?_); rintro e wn ⟨rfl, h1⟩; (first | (replace ob := ob.keep h1) | (have ob := keepZd h1; have hgW := Nat.le_refl w5.heap.size) | (have ob := keepZ h1; have hgW := hcs) | skip); (first | (replace hc := (hc.alloc hcs Z4).trans (h1.mono (Nat.le_trans hcs (by simp)))) | (replace hc := hc.trans (h1.mono hcs))); replace hcs := hc.size; (try (have e0 := ob.cell (k := 0) (by decide); have e1 := ob.cell (k := 1) (by decide); have e2 := ob.cell (k := 2) (by decide); have e3 := ob.cell (k := 3) (by decide); have f0 := ob.free 0; have f1 := ob.free 1; have f2 := ob.free 2; have f3 := ob.free 3))))
  all_goals
    first
      | (obtain ⟨v, ev, rz, hcv⟩ : ∃ v, v = wn.alloc (A4 0) ∧ RdF v v.heap.size (some ⟨wn.heap.size, 0, none⟩) 4 4 (wv 0) ∧ Below w5.heap.size w5 v := ⟨_, rfl, (own_A4 (Nat.le_refl _) 0).rd, hc.alloc hcs _⟩
         rw [← ev])
      | (obtain ⟨v, ev, op, hbp⟩ := put4e ob 0
         have rz := op.rd
         have hcv := hc.trans (hbp.mono hgW)
         rw [← ev])
    clear ev
    obtain ⟨b0, b1, b2, b3, c0, c1, c2, c3, g0, g1, g2, g3, h0_, h1_, h2_, h3_⟩ := HS2.out v hcv
    go_wp2_with fail
    go_at_call 29
    refine (kc _).mono ?_
    rintro e v2 ⟨rfl, h2⟩
    replace rz := rz.next h2
    replace hcv := hcv.trans (h2.mono hcv.size)
    clear b0 b1 b2 b3 c0 c1 c2 c3 g0 g1 g2 g3 h0_ h1_ h2_ h3_ h2
    obtain ⟨b0, b1, b2, b3, c0, c1, c2, c3, g0, g1, g2, g3, h0_, h1_, h2_, h3_⟩ := HS2.out v2 hcv
    obtain ⟨z0, z1, z2, z3⟩ := rz.c4
    go_wp2_with (first | ((with_reducible refine gate_list .eql 25 ?_); refine wpList_eqlA 25 _ _ _ rfl rfl rfl rfl (guard4 _ _ _ _ _) (by first | with_reducible exact Q1.out _ | with_reducible exact Q2.out _) ?_) | ((with_reducible refine gate_listG .eql 25 ?_); refine wpList_eqlG 25 _ _ _ rfl rfl rfl rfl (guard4 _ _ _ _ _) (by first | with_reducible exact Q1.out _ | with_reducible exact Q2.out _) ?_) | ((with_reducible refine gate_wp .eql 25 ?_); refine wp_eqlA 25 _ _ _ rfl rfl rfl (guard4 _ _ _ _ _) (by first | with_reducible exact Q1.out _ | with_reducible exact Q2.out _) ?_))
    go_at_call 14
    refine (awake_any _).mono ?_
    rintro e v3 ⟨rfl, h3⟩
    replace hcv := hcv.trans (h3.mono hcv.size)
    go_wp2_with fail
    go_ret
    exact ⟨rfl, hbw.trans (hcv.mono hbw.size)⟩
theorem below_walk {a b m : Nat} (ha : a < W8) (hb : b < W4) (hm : m < W4) (w : World) :
    Calls Try.prog 11 #[dv a, nv b, nv m] w fun e w' => e = .returned (.bool true) ∧ Below w.heap.size w w' := by
  by_cases h : m = 0
  · subst h; exact below_zero a b w
  · exact below_pos ha hb hm (by omega) w
end Go.Proofs.Yticmkcipagmgmaa
