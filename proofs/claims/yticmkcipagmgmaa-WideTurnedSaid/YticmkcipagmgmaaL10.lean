import Derived.Test.YticmkcipagmgmaaL11
import Derived.Deep.DeepCutAuto
namespace Go.Proofs.Yticmkcipagmgmaa
open Go Go.RowKit
theorem start3N (x y z : Nat) (w : World) : ∃ w2, w2 = ((w.alloc (A4 x)).alloc (A4 y)).alloc (A4 z) ∧ RdF w2 w2.heap.size (some ⟨w.heap.size, 0, none⟩) 4 4 (wv x) ∧ RdF w2 w2.heap.size (some ⟨w.heap.size + 1, 0, none⟩) 4 4 (wv y) ∧ RdF w2 w2.heap.size (some ⟨w.heap.size + 2, 0, none⟩) 4 4 (wv z) ∧ Below w.heap.size w w2 := by
  have s1 : (w.alloc (A4 x)).heap.size = w.heap.size + 1 := by simp
  have s2 : ((w.alloc (A4 x)).alloc (A4 y)).heap.size = w.heap.size + 2 := by simp
  have ra := ((own_A4 (w := w) (Nat.le_refl _) x).rd.alloc (A4 y)).alloc (A4 z)
  have rb := (own_A4 (w := w.alloc (A4 x)) (Nat.le_refl _) y).rd.alloc (A4 z)
  have rc := (own_A4 (w := (w.alloc (A4 x)).alloc (A4 y)) (Nat.le_refl _) z).rd
  rw [s1] at rb
  rw [s2] at rc
  exact ⟨_, rfl, ra, rb, rc, (((Below.refl _ w).alloc (Nat.le_refl _) _).alloc (by omega) _).alloc (by omega) _⟩
theorem W4W4' {x y : Nat} (hx : x < W4) (hy : y < W4) : x * y < W8 := by
  rw [W8_eq]; exact Nat.mul_lt_mul_of_lt_of_le hx (Nat.le_of_lt hy) W4_pos
theorem quot_sum (p q : Nat) : p / W4 + q / W4 + cw p q 4 = (p + q) / W4 := by
  have hc : cw p q 4 = (p % W4 + q % W4) / W4 := rfl
  rw [hc]
  have h1 := Nat.mod_add_div p W4
  have h2 := Nat.mod_add_div q W4
  conv => rhs; rw [← h1, ← h2, show p % W4 + W4 * (p / W4) + (q % W4 + W4 * (q / W4)) = (p % W4 + q % W4) + W4 * (p / W4 + q / W4) by rw [Nat.mul_add]; omega]
  rw [Nat.add_mul_div_left _ _ W4_pos]
  omega
theorem nv_high (z : Nat) : nv (z / W4) = .agg #[.int .u64 (wd z 4 : Int), .int .u64 (wd z 5 : Int), .int .u64 (wd z 6 : Int), .int .u64 (wd z 7 : Int)] := by
  unfold nv; rw [wd_hi, wd_hi, wd_hi, wd_hi]
theorem turned_hi (p q : Nat) (h : (p + q) / W4 < W4) (w : World) : Calls Try.prog 21 #[.agg #[.int .u64 (wd p 4 : Int), .int .u64 (wd p 5 : Int), .int .u64 (wd p 6 : Int), .int .u64 (wd p 7 : Int)], .agg #[.int .u64 (wd q 4 : Int), .int .u64 (wd q 5 : Int), .int .u64 (wd q 6 : Int), .int .u64 (wd q 7 : Int)]] w fun e w' => e = .returned (.tuple #[nv (p / W4 + q / W4), .int .u64 0]) ∧ Below w.heap.size w w' := by
  have hs := quot_sum p q
  have hk := add_any (p / W4) (q / W4) w
  generalize hP : p / W4 = P at *
  generalize hQ : q / W4 = Q at *
  rw [cw_four (x := P) (y := Q) (by omega) (by omega), Nat.div_eq_of_lt (show P + Q < W4 by omega), ← hP, ← hQ, nv_high p, nv_high q] at hk
  rw [← hP, ← hQ]
  exact hk
theorem turned_more (p q : Nat) (h : (p + q) / W4 < W4) (w : World) : Calls Try.prog 21 #[nv (p / W4 + q / W4), .agg #[.int .u64 (cw p q 4 : Int), .int .u64 0, .int .u64 0, .int .u64 0]] w fun e w' => e = .returned (.tuple #[.agg #[.int .u64 (wd (p + q) 4 : Int), .int .u64 (wd (p + q) 5 : Int), .int .u64 (wd (p + q) 6 : Int), .int .u64 (wd (p + q) 7 : Int)], .int .u64 0]) ∧ Below w.heap.size w w' := by
  have hs := quot_sum p q
  have hc1 := cw_le p q 4
  have one : 1 < W4 := by decide +kernel
  have e1 : nv (cw p q 4) = .agg #[.int .u64 (cw p q 4 : Int), .int .u64 0, .int .u64 0, .int .u64 0] := by
    have h0 : cw p q 4 = 0 ∨ cw p q 4 = 1 := by omega
    rcases h0 with h0 | h0
    · rw [h0]; simp [wd, dgt]
    · rw [h0]; simp [wd, dgt]
  have hk := add_any (p / W4 + q / W4) (cw p q 4) w
  rw [e1, hs, nv_high] at hk
  generalize hH : p / W4 + q / W4 = P at *
  generalize hC : cw p q 4 = Q at *
  rw [cw_four (x := P) (y := Q) (by omega) (by omega), Nat.div_eq_of_lt (show P + Q < W4 by omega)] at hk
  exact hk
theorem size_one {a : Nat} {W : World} (o : Obj) (h : a ≤ W.heap.size) : a ≤ (W.alloc o).heap.size := Nat.le_trans h (by simp)
abbrev ch8 (w : World) (g z : Nat) : World := ((((((((w.setCell ⟨g, 0, none⟩ (.int .u64 (wd z 0 : Int))).setCell ⟨g, 1, none⟩ (.int .u64 (wd z 1 : Int))).setCell ⟨g, 2, none⟩ (.int .u64 (wd z 2 : Int))).setCell ⟨g, 3, none⟩ (.int .u64 (wd z 3 : Int))).setCell ⟨g, 4, none⟩ (.int .u64 (wd z 4 : Int))).setCell ⟨g, 5, none⟩ (.int .u64 (wd z 5 : Int))).setCell ⟨g, 6, none⟩ (.int .u64 (wd z 6 : Int))).setCell ⟨g, 7, none⟩ (.int .u64 (wd z 7 : Int)))
theorem ch8_own {w : World} {B g : Nat} {e : TypeId} {f : Nat → Value} (h : OwnF w B e (some ⟨g, 0, none⟩) 8 8 f) (z : Nat) : OwnF (ch8 w g z) B e (some ⟨g, 0, none⟩) 8 8 (wv z) := by
  have h8 := (((((((h.set_ 0 (.int .u64 (wd z 0 : Int))).set_ 1 (.int .u64 (wd z 1 : Int))).set_ 2 (.int .u64 (wd z 2 : Int))).set_ 3 (.int .u64 (wd z 3 : Int))).set_ 4 (.int .u64 (wd z 4 : Int))).set_ 5 (.int .u64 (wd z 5 : Int))).set_ 6 (.int .u64 (wd z 6 : Int))).set_ 7 (.int .u64 (wd z 7 : Int))
  refine h8.congr fun j hj => ?_
  have : j = 0 ∨ j = 1 ∨ j = 2 ∨ j = 3 ∨ j = 4 ∨ j = 5 ∨ j = 6 ∨ j = 7 := by omega
  rcases this with rfl | rfl | rfl | rfl | rfl | rfl | rfl | rfl <;> rfl
theorem ch8_other {w : World} {B g g' : Nat} {e : TypeId} {f : Nat → Value} (z : Nat) (hg : g ≠ g') (h : OwnF w B e (some ⟨g', 0, none⟩) 8 8 f) : OwnF (ch8 w g z) B e (some ⟨g', 0, none⟩) 8 8 f :=
  (((((((h.other (p := ⟨g, 0, none⟩) hg _).other (p := ⟨g, 1, none⟩) hg _).other (p := ⟨g, 2, none⟩) hg _).other (p := ⟨g, 3, none⟩) hg _).other (p := ⟨g, 4, none⟩) hg _).other (p := ⟨g, 5, none⟩) hg _).other (p := ⟨g, 6, none⟩) hg _).other (p := ⟨g, 7, none⟩) hg _
theorem ch8_below {w0 w : World} {B g : Nat} (z : Nat) (h : Below B w0 w) (hg : B ≤ g) : Below B w0 (ch8 w g z) :=
  (((((((h.setCell (p := ⟨g, 0, none⟩) hg _).setCell (p := ⟨g, 1, none⟩) hg _).setCell (p := ⟨g, 2, none⟩) hg _).setCell (p := ⟨g, 3, none⟩) hg _).setCell (p := ⟨g, 4, none⟩) hg _).setCell (p := ⟨g, 5, none⟩) hg _).setCell (p := ⟨g, 6, none⟩) hg _).setCell (p := ⟨g, 7, none⟩) hg _
theorem ch8_size (w : World) (g z : Nat) : (ch8 w g z).heap.size = w.heap.size := by simp [ch8]
theorem endA (W : World) (p q : Nat) : ∃ u, u = (W.alloc (A8 p)).alloc (A8 q) ∧ RdF u u.heap.size (some ⟨W.heap.size, 0, none⟩) 8 8 (wv p) ∧ RdF u u.heap.size (some ⟨W.heap.size + 1, 0, none⟩) 8 8 (wv q) ∧ ∀ B w0, Below B w0 W → B ≤ W.heap.size → Below B w0 u := by
  have s1 : (W.alloc (A8 p)).heap.size = W.heap.size + 1 := by simp
  have hb := (own_A8 (w := W.alloc (A8 p)) (Nat.le_refl _) q).rd
  rw [s1] at hb
  exact ⟨_, rfl, (own_A8 (w := W) (Nat.le_refl _) p).rd.alloc (A8 q), hb, fun _ _ h hB => (h.alloc hB _).alloc (size_one _ hB) _⟩
theorem endB {W : World} {B g : Nat} {e : TypeId} {f : Nat → Value} (h : OwnF W B e (some ⟨g, 0, none⟩) 8 8 f) (p q : Nat) : ∃ u, u = (ch8 W g p).alloc (A8 q) ∧ RdF u u.heap.size (some ⟨g, 0, none⟩) 8 8 (wv p) ∧ RdF u u.heap.size (some ⟨W.heap.size, 0, none⟩) 8 8 (wv q) ∧ ∀ B w0, Below B w0 W → B ≤ g → B ≤ W.heap.size → Below B w0 u := by
  have hb := (own_A8 (w := ch8 W g p) (Nat.le_refl _) q).rd
  rw [ch8_size] at hb
  exact ⟨_, rfl, (ch8_own h p).rd.alloc (A8 q), hb, fun _ _ h1 hg hB => (ch8_below p h1 hg).alloc (by rw [ch8_size]; exact hB) _⟩
theorem endC {W : World} {B B' g g' : Nat} {e e' : TypeId} {f f' : Nat → Value} (h : OwnF W B e (some ⟨g, 0, none⟩) 8 8 f) (h' : OwnF W B' e' (some ⟨g', 0, none⟩) 8 8 f') (hne : g ≠ g') (p q : Nat) :
    ∃ u, u = ch8 (ch8 W g p) g' q ∧ RdF u u.heap.size (some ⟨g, 0, none⟩) 8 8 (wv p) ∧ RdF u u.heap.size (some ⟨g', 0, none⟩) 8 8 (wv q) ∧ ∀ B w0, Below B w0 W → B ≤ g → B ≤ g' → Below B w0 u :=
  ⟨_, rfl, (ch8_other q hne.symm (ch8_own h p)).rd, (ch8_own (ch8_other p hne h') q).rd, fun _ _ h1 hg hg' => ch8_below q (ch8_below p h1 hg) hg'⟩
theorem keep8 {W w' : World} (h : Below (W.alloc Z8).heap.size (W.alloc Z8) w') : OwnF w' W.heap.size 29 (some ⟨W.heap.size, 0, none⟩) 8 8 (fun _ => .int .u64 0) := (own_Z8 (w := W) (Nat.le_refl _)).keep h
theorem keep8d {W w' : World} (h : Below (W.alloc Z8).drew.heap.size (W.alloc Z8).drew w') : OwnF w' W.heap.size 29 (some ⟨W.heap.size, 0, none⟩) 8 8 (fun _ => .int .u64 0) := ((own_Z8 (w := W) (Nat.le_refl _)).drew).keep h
theorem keep8a {W w' : World} (h : Below ((W.alloc Z8).alloc Z8).heap.size ((W.alloc Z8).alloc Z8) w') : OwnF w' W.heap.size 29 (some ⟨W.heap.size, 0, none⟩) 8 8 (fun _ => .int .u64 0) := ((own_ZZ8 W).1).keep h
theorem keep8b {W w' : World} (h : Below ((W.alloc Z8).alloc Z8).heap.size ((W.alloc Z8).alloc Z8) w') : OwnF w' W.heap.size 29 (some ⟨W.heap.size + 1, 0, none⟩) 8 8 (fun _ => .int .u64 0) := ((own_ZZ8 W).2.1).keep h
theorem keep8ad {W w' : World} (h : Below ((W.alloc Z8).alloc Z8).drew.heap.size ((W.alloc Z8).alloc Z8).drew w') : OwnF w' W.heap.size 29 (some ⟨W.heap.size, 0, none⟩) 8 8 (fun _ => .int .u64 0) := (((own_ZZ8 W).1).drew).keep h
theorem keep8bd {W w' : World} (h : Below ((W.alloc Z8).alloc Z8).drew.heap.size ((W.alloc Z8).alloc Z8).drew w') : OwnF w' W.heap.size 29 (some ⟨W.heap.size + 1, 0, none⟩) 8 8 (fun _ => .int .u64 0) := (((own_ZZ8 W).2.1).drew).keep h
attribute [local irreducible] wd by8
set_option maxRecDepth 20000 in
set_option maxHeartbeats 1600000 in
theorem turned_any {x y z : Nat} (hx : x < W4) (hy : y < W4) (hz : z < W4) (w : World) :
    Calls Try.prog 10 #[nv x, nv y, nv z] w fun e w' => e = .returned (.bool true) ∧ Below w.heap.size w w' := by
  obtain ⟨w2, e2, ra, rb, rc, hbw⟩ := start3N x y z w
  have k1 := fun w => mul_any x y hx hy w
  have k2 := fun w => mul_any y x hy hx w
  rw [Nat.mul_comm y x] at k2
  have k3 := fun w => mul_any x z hx hz w
  have q1 := eq8_self (W4W4' hx hy)
  obtain ⟨p, hp⟩ : ∃ p, p = x * y := ⟨_, rfl⟩
  obtain ⟨q, hq⟩ : ∃ q, q = x * z := ⟨_, rfl⟩
  rw [← hp] at k1 k2 q1
  rw [← hq] at k3
  have ka := fun w => add_any y z w
  have hcw := cw_four hy hz
  obtain ⟨s, hs⟩ : ∃ s, s = y + z := ⟨_, rfl⟩
  have hks : y + z < W4 → ∀ w, Calls Try.prog 25 #[nv x, nv s] w fun e w' => e = .returned (dv (p + q)) ∧ Below w.heap.size w w' := fun h w => by
    have hk := mul_any x s hx (by omega) w
    rw [hs, Nat.mul_add, ← hp, ← hq, ← hs] at hk
    exact hk
  have hpq : y + z < W4 → p + q < W8 := fun h => by
    rw [hp, hq, ← Nat.mul_add]; exact W4W4' hx h
  rw [← hs] at ka
  have HCW := Lib.hid hcw
  have HPQ := Lib.hid hpq
  have HKS := Lib.hid hks
  generalize hcr : cw y z 4 = cr at ka
  have HCR := Lib.hid hcr
  unfold nv
  unfold dv at q1
  have Q1 := Lib.hid q1
  clear q1 hp hq hs hcw hpq hks hcr
  go_enter Try.func10, Try.ntmps10
  go_upto_region 1 with fail
  rw [← e2]
  clear e2
  have HS : ∀ wz, Below w2.heap.size w2 wz → wz.cell? ⟨w.heap.size, 0, none⟩ = some (.int .u64 (wd x 0 : Int)) ∧ wz.cell? ⟨w.heap.size, 1, none⟩ = some (.int .u64 (wd x 1 : Int)) ∧ wz.cell? ⟨w.heap.size, 2, none⟩ = some (.int .u64 (wd x 2 : Int)) ∧ wz.cell? ⟨w.heap.size, 3, none⟩ = some (.int .u64 (wd x 3 : Int)) ∧ wz.cell? ⟨w.heap.size + 1, 0, none⟩ = some (.int .u64 (wd y 0 : Int)) ∧ wz.cell? ⟨w.heap.size + 1, 1, none⟩ = some (.int .u64 (wd y 1 : Int)) ∧ wz.cell? ⟨w.heap.size + 1, 2, none⟩ = some (.int .u64 (wd y 2 : Int)) ∧ wz.cell? ⟨w.heap.size + 1, 3, none⟩ = some (.int .u64 (wd y 3 : Int)) ∧ wz.cell? ⟨w.heap.size + 2, 0, none⟩ = some (.int .u64 (wd z 0 : Int)) ∧ wz.cell? ⟨w.heap.size + 2, 1, none⟩ = some (.int .u64 (wd z 1 : Int)) ∧ wz.cell? ⟨w.heap.size + 2, 2, none⟩ = some (.int .u64 (wd z 2 : Int)) ∧ wz.cell? ⟨w.heap.size + 2, 3, none⟩ = some (.int .u64 (wd z 3 : Int)) := fun wz hz => by
    obtain ⟨a0, a1, a2, a3⟩ := (ra.keep hz).c4
    obtain ⟨b0, b1, b2, b3⟩ := (rb.keep hz).c4
    obtain ⟨c0, c1, c2, c3⟩ := (rc.keep hz).c4
    exact ⟨a0, a1, a2, a3, b0, b1, b2, b3, c0, c1, c2, c3⟩
  have HS2 := Lib.hid HS
  clear HS
  go_cut [24] from 18 to 24 (fun b wx => b = .bool false ∧ Below w2.heap.size w2 wx)
  case first =>
    obtain ⟨a0, a1, a2, a3, b0, b1, b2, b3, c0, c1, c2, c3⟩ := HS2.out w2 (Below.refl _ _)
    have hc : Below w2.heap.size w2 w2.drew := (Below.refl _ w2).drew
    have q1 := Q1.out
    go_region_held3 (fun wz => wz.cell? ⟨w.heap.size, 0, none⟩ = some (.int .u64 (wd x 0 : Int)) ∧ wz.cell? ⟨w.heap.size, 1, none⟩ = some (.int .u64 (wd x 1 : Int)) ∧ wz.cell? ⟨w.heap.size, 2, none⟩ = some (.int .u64 (wd x 2 : Int)) ∧ wz.cell? ⟨w.heap.size, 3, none⟩ = some (.int .u64 (wd x 3 : Int)) ∧ wz.cell? ⟨w.heap.size + 1, 0, none⟩ = some (.int .u64 (wd y 0 : Int)) ∧ wz.cell? ⟨w.heap.size + 1, 1, none⟩ = some (.int .u64 (wd y 1 : Int)) ∧ wz.cell? ⟨w.heap.size + 1, 2, none⟩ = some (.int .u64 (wd y 2 : Int)) ∧ wz.cell? ⟨w.heap.size + 1, 3, none⟩ = some (.int .u64 (wd y 3 : Int)) ∧ wz.cell? ⟨w.heap.size + 2, 0, none⟩ = some (.int .u64 (wd z 0 : Int)) ∧ wz.cell? ⟨w.heap.size + 2, 1, none⟩ = some (.int .u64 (wd z 1 : Int)) ∧ wz.cell? ⟨w.heap.size + 2, 2, none⟩ = some (.int .u64 (wd z 2 : Int)) ∧ wz.cell? ⟨w.heap.size + 2, 3, none⟩ = some (.int .u64 (wd z 3 : Int)))
      (exact HS2.out _ hc)
      (first | (go_at_call 25; (with_reducible refine (k1 _).mono ?_); rintro e wm ⟨rfl, h1⟩; replace hc := hc.trans (h1.mono hc.size)) | (go_at_call 25; (with_reducible refine (k2 _).mono ?_); rintro e wm ⟨rfl, h1⟩; replace hc := hc.trans (h1.mono hc.size)))
    all_goals
      go_wp2_with fail
      go_meet
      exact ⟨rfl, hc⟩
  case rest =>
    obtain ⟨rfl, hc⟩ := hcut
    obtain ⟨a0, a1, a2, a3, b0, b1, b2, b3, c0, c1, c2, c3⟩ := HS2.out _ hc
    go_wp2_with fail
    go_at_call 21
    refine (ka _).mono ?_
    rintro e w4 ⟨rfl, h1⟩
    have rs := (own_A4 (w := w4) (Nat.le_refl _) s).rd
    replace hc := (hc.trans (h1.mono hc.size)).alloc (Nat.le_trans hc.size h1.size) (A4 s)
    clear h1 a0 a1 a2 a3 b0 b1 b2 b3 c0 c1 c2 c3
    by_cases hlt : y + z < W4
    · have g0 : (cr : Int) = 0 := by
        have := HCW.out
        rw [HCR.out, Nat.div_eq_of_lt hlt] at this
        omega
      go_upto_region 6 with fail
      obtain ⟨v, ev⟩ : ∃ v, v = w4.alloc (A4 s) := ⟨_, rfl⟩
      rw [← ev] at rs hc ⊢
      clear ev
      have HV : ∀ wz, Below v.heap.size v wz → wz.cell? ⟨w.heap.size, 0, none⟩ = some (.int .u64 (wd x 0 : Int)) ∧ wz.cell? ⟨w.heap.size, 1, none⟩ = some (.int .u64 (wd x 1 : Int)) ∧ wz.cell? ⟨w.heap.size, 2, none⟩ = some (.int .u64 (wd x 2 : Int)) ∧ wz.cell? ⟨w.heap.size, 3, none⟩ = some (.int .u64 (wd x 3 : Int)) ∧ wz.cell? ⟨w.heap.size + 1, 0, none⟩ = some (.int .u64 (wd y 0 : Int)) ∧ wz.cell? ⟨w.heap.size + 1, 1, none⟩ = some (.int .u64 (wd y 1 : Int)) ∧ wz.cell? ⟨w.heap.size + 1, 2, none⟩ = some (.int .u64 (wd y 2 : Int)) ∧ wz.cell? ⟨w.heap.size + 1, 3, none⟩ = some (.int .u64 (wd y 3 : Int)) ∧ wz.cell? ⟨w.heap.size + 2, 0, none⟩ = some (.int .u64 (wd z 0 : Int)) ∧ wz.cell? ⟨w.heap.size + 2, 1, none⟩ = some (.int .u64 (wd z 1 : Int)) ∧ wz.cell? ⟨w.heap.size + 2, 2, none⟩ = some (.int .u64 (wd z 2 : Int)) ∧ wz.cell? ⟨w.heap.size + 2, 3, none⟩ = some (.int .u64 (wd z 3 : Int)) := fun wz hz => HS2.out wz (hc.trans (hz.mono hc.size))
      have HV2 := Lib.hid HV
      have hc0 := Lib.hid hc
      clear hc HV
      go_cut [9, 10] from 38 to 43 (fun v9 v10 wx => ∃ g1 g2, v9 = .pointer (some ⟨g1, 0, none⟩) ∧ v10 = .pointer (some ⟨g2, 0, none⟩) ∧ RdF wx wx.heap.size (some ⟨g1, 0, none⟩) 8 8 (wv p) ∧ RdF wx wx.heap.size (some ⟨g2, 0, none⟩) 8 8 (wv q) ∧ Below v.heap.size v wx)
      case first =>
        obtain ⟨a0, a1, a2, a3, b0, b1, b2, b3, c0, c1, c2, c3⟩ := HV2.out v (Below.refl _ _)
        have hc : Below v.heap.size v v.drew := (Below.refl _ v).drew
        have hcs : v.heap.size ≤ v.drew.heap.size := Nat.le_refl _
        have hszA : v.heap.size ≤ (v.alloc Z8).drew.heap.size := size_one Z8 (Nat.le_refl _)
        have hszB : v.heap.size ≤ ((v.alloc Z8).alloc Z8).drew.heap.size := size_one Z8 (size_one Z8 (Nat.le_refl _))
        go_region_held3 (fun wz => wz.cell? ⟨w.heap.size, 0, none⟩ = some (.int .u64 (wd x 0 : Int)) ∧ wz.cell? ⟨w.heap.size, 1, none⟩ = some (.int .u64 (wd x 1 : Int)) ∧ wz.cell? ⟨w.heap.size, 2, none⟩ = some (.int .u64 (wd x 2 : Int)) ∧ wz.cell? ⟨w.heap.size, 3, none⟩ = some (.int .u64 (wd x 3 : Int)) ∧ wz.cell? ⟨w.heap.size + 1, 0, none⟩ = some (.int .u64 (wd y 0 : Int)) ∧ wz.cell? ⟨w.heap.size + 1, 1, none⟩ = some (.int .u64 (wd y 1 : Int)) ∧ wz.cell? ⟨w.heap.size + 1, 2, none⟩ = some (.int .u64 (wd y 2 : Int)) ∧ wz.cell? ⟨w.heap.size + 1, 3, none⟩ = some (.int .u64 (wd y 3 : Int)) ∧ wz.cell? ⟨w.heap.size + 2, 0, none⟩ = some (.int .u64 (wd z 0 : Int)) ∧ wz.cell? ⟨w.heap.size + 2, 1, none⟩ = some (.int .u64 (wd z 1 : Int)) ∧ wz.cell? ⟨w.heap.size + 2, 2, none⟩ = some (.int .u64 (wd z 2 : Int)) ∧ wz.cell? ⟨w.heap.size + 2, 3, none⟩ = some (.int .u64 (wd z 3 : Int)))
          (first | with_reducible exact HV2.out _ hc | with_reducible exact HV2.out _ (hc.alloc hcs _) | with_reducible exact HV2.out _ ((hc.alloc hcs _).alloc (size_one _ hcs) _) | with_reducible exact HV2.out _ (((Below.refl _ v).alloc (Nat.le_refl _) _).drew) | with_reducible exact HV2.out _ ((((Below.refl _ v).alloc (Nat.le_refl _) _).alloc (size_one _ (Nat.le_refl _)) _).drew) | (refine HV2.out _ ?_; repeat (first | with_reducible exact hc | (with_reducible refine Below.setCell ?_ (by first | omega | (simp; done) | (simp; omega)) _) | (with_reducible refine Below.alloc ?_ (by first | omega | (simp; done) | (simp; omega)) _) | with_reducible refine Below.drew ?_)))
          (first | (go_at_call 25; (with_reducible refine (k1 _).mono ?_); rintro e wm ⟨rfl, h1⟩; (first | (with_reducible replace hc := hc.trans (h1.mono hcs)) | (with_reducible have hcn := (((Below.refl _ v).alloc (Nat.le_refl _) Z8).drew).trans (h1.mono hszA); have oA := keep8d h1; have hgA := Nat.le_refl v.heap.size; clear hc; have hc := hcn; clear hcn) | (with_reducible have hcn := ((((Below.refl _ v).alloc (Nat.le_refl _) Z8).alloc (size_one Z8 (Nat.le_refl _)) Z8).drew).trans (h1.mono hszB); have oA := keep8ad h1; have oB := keep8bd h1; have hgA := Nat.le_refl v.heap.size; have hgB := Nat.le_succ v.heap.size; have hAB := Nat.ne_of_lt (Nat.lt_succ_self v.heap.size); clear hc; have hc := hcn; clear hcn)); replace hcs := hc.size) | (go_at_call 25; (with_reducible refine (k3 _).mono ?_); rintro e wn ⟨rfl, h1⟩; (first | (with_reducible have hcn := hc.trans (h1.mono hcs); (try (have oBk := oB.keep h1; clear oB; have oB := oBk; clear oBk)); (try (have oAk := oA.keep h1; clear oA; have oA := oAk; clear oAk)); clear hc; have hc := hcn; clear hcn) | (with_reducible have hcn := (hc.alloc hcs Z8).trans (h1.mono (size_one Z8 hcs)); have hAB := Nat.ne_of_lt oA.lt; have oB := keep8 h1; have oAk := (OwnF.keep oA ((Below.refl wm.heap.size wm).alloc (Nat.le_refl _) Z8)).keep h1; clear oA; have oA := oAk; clear oAk; have hgB := hcs; clear hc; have hc := hcn; clear hcn) | (with_reducible have hcn := (hc.alloc hcs Z8).trans (h1.mono (size_one Z8 hcs)); have oA := keep8 h1; have hgA := hcs; clear hc; have hc := hcn; clear hcn) | (with_reducible have hcn := ((hc.alloc hcs Z8).alloc (size_one Z8 hcs) Z8).trans (h1.mono (size_one Z8 (size_one Z8 hcs))); have oA := keep8a h1; have oB := keep8b h1; have hgA := hcs; have hgB := Nat.le_succ_of_le hcs; have hAB := Nat.ne_of_lt (Nat.lt_succ_self wm.heap.size); clear hc; have hc := hcn; clear hcn)); replace hcs := hc.size; (try have hlA := oA.lt); (try have hlB := oB.lt); (try have eA0 := oA.cell (k := 0) (by decide)); (try have eA1 := oA.cell (k := 1) (by decide)); (try have eA2 := oA.cell (k := 2) (by decide)); (try have eA3 := oA.cell (k := 3) (by decide)); (try have eA4 := oA.cell (k := 4) (by decide)); (try have eA5 := oA.cell (k := 5) (by decide)); (try have eA6 := oA.cell (k := 6) (by decide)); (try have eA7 := oA.cell (k := 7) (by decide)); (try have fA0 := oA.free 0); (try have fA1 := oA.free 1); (try have fA2 := oA.free 2); (try have fA3 := oA.free 3); (try have fA4 := oA.free 4); (try have fA5 := oA.free 5); (try have fA6 := oA.free 6); (try have fA7 := oA.free 7); (try have eB0 := oB.cell (k := 0) (by decide)); (try have eB1 := oB.cell (k := 1) (by decide)); (try have eB2 := oB.cell (k := 2) (by decide)); (try have eB3 := oB.cell (k := 3) (by decide)); (try have eB4 := oB.cell (k := 4) (by decide)); (try have eB5 := oB.cell (k := 5) (by decide)); (try have eB6 := oB.cell (k := 6) (by decide)); (try have eB7 := oB.cell (k := 7) (by decide)); (try have fB0 := oB.free 0); (try have fB1 := oB.free 1); (try have fB2 := oB.free 2); (try have fB3 := oB.free 3); (try have fB4 := oB.free 4); (try have fB5 := oB.free 5); (try have fB6 := oB.free 6); (try have fB7 := oB.free 7)))
        all_goals (first | (obtain ⟨u, eu, r9, r10, hu⟩ := endC oA oB hAB p q; unfold ch8 at eu; rw [← eu]; have hfin := hu _ _ hc hgA hgB; go_wp2_with fail; go_meet; exact ⟨_, _, rfl, rfl, r9, r10, hfin⟩) | (obtain ⟨u, eu, r9, r10, hu⟩ := endC oB oA hAB.symm p q; unfold ch8 at eu; rw [← eu]; have hfin := hu _ _ hc hgB hgA; go_wp2_with fail; go_meet; exact ⟨_, _, rfl, rfl, r9, r10, hfin⟩) | (obtain ⟨u, eu, r9, r10, hu⟩ := endB oA p q; rw [← eu]; have hfin := hu _ _ hc hgA hcs; go_wp2_with fail; go_meet; exact ⟨_, _, rfl, rfl, r9, r10, hfin⟩) | (obtain ⟨u, eu, r10, r9, hu⟩ := endB oA q p; rw [← eu]; have hfin := hu _ _ hc hgA hcs; go_wp2_with fail; go_meet; exact ⟨_, _, rfl, rfl, r9, r10, hfin⟩) | (obtain ⟨u, eu, r9, r10, hu⟩ := endA wn p q; rw [← eu]; have hfin := hu _ _ hc hcs; go_wp2_with fail; go_meet; exact ⟨_, _, rfl, rfl, r9, r10, hfin⟩) | (obtain ⟨u, eu, r10, r9, hu⟩ := endA wn q p; rw [← eu]; have hfin := hu _ _ hc hcs; go_wp2_with fail; go_meet; exact ⟨_, _, rfl, rfl, r9, r10, hfin⟩) | fail)
      case rest =>
        obtain ⟨g1, g2, rfl, rfl, rp, rq, hcv⟩ := hcut
        have hc := hc0.out
        replace rs := rs.next hcv
        have hcT := hc.trans (hcv.mono hc.size)
        have hpq := HPQ.out hlt
        have kmul := HKS.out hlt
        have hdiv : (p + q) / W4 < W4 := Nat.div_lt_of_lt_mul (by rw [← W8_eq]; exact hpq)
        have kl := fun w => add_any p q w
        have kh := fun w => turned_hi p q hdiv w
        have km := fun w => turned_more p q hdiv w
        have qt := eq8_self hpq
        generalize p / W4 + q / W4 = h at kh km
        generalize cw p q 4 = u at kl km
        generalize p + q = t at kl km kmul qt
        unfold dv at qt
        have QT := Lib.hid qt
        clear qt hpq hdiv hc hcv hlt
        obtain ⟨p0, p1, p2, p3, p4, p5, p6, p7⟩ := rp.c8
        obtain ⟨q0, q1, q2, q3, q4, q5, q6, q7⟩ := rq.c8
        go_wp2_with fail
        go_at_call 21
        refine (kl _).mono ?_
        rintro e u1 ⟨rfl, h1⟩
        clear p0 p1 p2 p3 p4 p5 p6 p7 q0 q1 q2 q3 q4 q5 q6 q7
        have rl := (own_A4 (w := u1) (Nat.le_refl _) t).rd
        replace rp := (rp.next h1).alloc (A4 t)
        replace rq := (rq.next h1).alloc (A4 t)
        replace rs := (rs.next h1).alloc (A4 t)
        replace hcT := (hcT.trans (h1.mono hcT.size)).alloc (Nat.le_trans hcT.size h1.size) (A4 t)
        clear h1
        obtain ⟨p0, p1, p2, p3, p4, p5, p6, p7⟩ := rp.c8
        obtain ⟨q0, q1, q2, q3, q4, q5, q6, q7⟩ := rq.c8
        go_wp2_with fail
        go_at_call 21
        refine (kh _).mono ?_
        rintro e u2 ⟨rfl, h1⟩
        clear p0 p1 p2 p3 p4 p5 p6 p7 q0 q1 q2 q3 q4 q5 q6 q7 rp rq
        have rh := (own_A4 (w := u2) (Nat.le_refl _) h).rd
        replace rl := (rl.next h1).alloc (A4 h)
        replace rs := (rs.next h1).alloc (A4 h)
        replace hcT := (hcT.trans (h1.mono hcT.size)).alloc (Nat.le_trans hcT.size h1.size) (A4 h)
        clear h1
        obtain ⟨z0, z1, z2, z3⟩ := rh.c4
        go_wp2_with fail
        go_at_call 21
        refine (km _).mono ?_
        rintro e u3 ⟨rfl, h1⟩
        clear z0 z1 z2 z3 rh
        have rm := (OwnF.lit (w := u3) 25 (Nat.le_refl _) #[.int .u64 (wd t 4 : Int), .int .u64 (wd t 5 : Int), .int .u64 (wd t 6 : Int), .int .u64 (wd t 7 : Int)] 4 (fun j => .int .u64 (wd t (4 + j) : Int)) (by decide) rfl).rd
        replace rl := (rl.next h1).alloc (.cells #[.int .u64 (wd t 4 : Int), .int .u64 (wd t 5 : Int), .int .u64 (wd t 6 : Int), .int .u64 (wd t 7 : Int)] 25)
        replace rs := (rs.next h1).alloc (.cells #[.int .u64 (wd t 4 : Int), .int .u64 (wd t 5 : Int), .int .u64 (wd t 6 : Int), .int .u64 (wd t 7 : Int)] 25)
        replace hcT := (hcT.trans (h1.mono hcT.size)).alloc (Nat.le_trans hcT.size h1.size) (.cells #[.int .u64 (wd t 4 : Int), .int .u64 (wd t 5 : Int), .int .u64 (wd t 6 : Int), .int .u64 (wd t 7 : Int)] 25)
        clear h1
        obtain ⟨s0, s1, s2, s3⟩ := rs.c4
        obtain ⟨a0, a1, a2, a3, -⟩ := HS2.out _ hcT
        go_wp2_with fail
        go_at_call 25
        refine (kmul _).mono ?_
        rintro e u4 ⟨rfl, h1⟩
        clear s0 s1 s2 s3 a0 a1 a2 a3 rs
        have rz := (own_A8 (w := u4) (Nat.le_refl _) t).rd
        replace rl := (rl.next h1).alloc (A8 t)
        replace rm := (rm.next h1).alloc (A8 t)
        replace hcT := (hcT.trans (h1.mono hcT.size)).alloc (Nat.le_trans hcT.size h1.size) (A8 t)
        clear h1
        obtain ⟨l0, l1, l2, l3⟩ := rl.c4
        have m0 := rm.cell0 (k := 0) (by decide)
        have m1 := rm.cell0 (k := 1) (by decide)
        have m2 := rm.cell0 (k := 2) (by decide)
        have m3 := rm.cell0 (k := 3) (by decide)
        simp only [Nat.reduceAdd] at m0 m1 m2 m3
        obtain ⟨z0, z1, z2, z3, z4, z5, z6, z7⟩ := rz.c8
        go_wp2_with (first | ((with_reducible refine gate_list .eql 29 ?_); refine wpList_eqlA 29 _ _ _ rfl rfl rfl rfl (guard8 _ _ _ _ _) (by first | with_reducible exact QT.out _) ?_) | ((with_reducible refine gate_listG .eql 29 ?_); refine wpList_eqlG 29 _ _ _ rfl rfl rfl rfl (guard8 _ _ _ _ _) (by first | with_reducible exact QT.out _) ?_) | ((with_reducible refine gate_wp .eql 29 ?_); refine wp_eqlA 29 _ _ _ rfl rfl rfl (guard8 _ _ _ _ _) (by first | with_reducible exact QT.out _) ?_))
        go_at_call 14
        refine (awake_any _).mono ?_
        rintro e u5 ⟨rfl, h1⟩
        replace hcT := hcT.trans (h1.mono hcT.size)
        go_wp2_with fail
        go_ret
        exact ⟨rfl, hbw.trans (hcT.mono hbw.size)⟩
    · have g0 : (cr : Int) = 1 := by
        have := HCW.out
        rw [HCR.out, Nat.div_eq_of_lt_le (k := 1) (by omega) (by omega)] at this
        omega
      go_wp2_with fail
      go_at_call 14
      refine (awake_any _).mono ?_
      rintro e w5 ⟨rfl, h1⟩
      replace hc := hc.trans (h1.mono hc.size)
      go_wp2_with fail
      go_ret
      exact ⟨rfl, hbw.trans (hc.mono hbw.size)⟩
end Go.Proofs.Yticmkcipagmgmaa
