import Derived.Test.YtecphnhdcphgbaaMod
namespace Go.Proofs.Ytecphnhdcphgbaa
open Go Go.RowKit
set_option maxRecDepth 20000 in
set_option maxHeartbeats 800000 in
theorem mod_any {a m : Nat} (ha : a < W8) (hm : m < W4) (h0 : 0 < m) (w : World) :
    Calls Try.prog 50 #[dv a, nv m] w fun e w' => e = .returned (.tuple #[nv (a % m), .int .i64 0]) ∧ Below w.heap.size w w' := by
  obtain ⟨irx, iry, ioz, ios, bb⟩ := startM a m w
  have heq := eq4z m hm
  have hd : decide (m = 0) = false := by simp; omega
  unfold nv at heq
  unfold nv dv
  go_enter Try.func50, Try.ntmps50
  go_wp2_with fail
  clear heq hd
  go_loopw [14] (fun i wr => ∃ k : Nat, k ≤ 8 ∧ i = .int .i64 k ∧ RdF wr (w.heap.size + 2) (some ⟨w.heap.size, 0, none⟩) 8 8 (wv a) ∧ RdF wr (w.heap.size + 2) (some ⟨w.heap.size + 1, 0, none⟩) 4 4 (wv m) ∧
      OwnF wr w.heap.size 35 (some ⟨w.heap.size + 2, 0, none⟩) 4 4 (fun _ => .int .u64 0) ∧ OwnF wr w.heap.size 35 (some ⟨w.heap.size + 3, 0, none⟩) 4 4 (wv (shr a (64 * (8 - k)) % m)) ∧ Below w.heap.size w wr)
    (fun i _ => 8 - (intOf i).toNat)
  case atStart => exact ⟨0, by omega, rfl, irx, iry, ioz, ios.congr (fun j _ => by rw [show shr a (64 * (8 - 0)) = 0 from shr_all ha]; unfold wv wd dgt; simp), bb⟩
  case round =>
    obtain ⟨i, hi, rfl, rx, ry, oz, os, hb⟩ := hrel
    clear irx iry ioz ios bb
    by_cases hlt : i < 8
    · have g1 : (i : Int) < 8 := by omega
      have c1 := rx.cell0 (k := 7 - i) (by omega)
      unfold wv at c1
      have g2 : IntKind.i64.wrap (7 - (i : Int)) = 7 - (i : Int) := by rw [IntKind.wrap_i64]; omega
      have g3 : 0 ≤ 7 - (i : Int) := by omega
      have g4 : 7 - (i : Int) < 8 := by omega
      have g5 : (7 - (i : Int)).toNat = 7 - i := by omega
      go_wp2_with fail
      obtain ⟨w0, e0⟩ : ∃ w0 : World, w0 = wr := ⟨_, rfl⟩
      subst e0
      go_loopw [21] (fun kk wr => ∃ k : Nat, k ≤ 64 ∧ kk = .int .i64 k ∧ RdF wr (w.heap.size + 2) (some ⟨w.heap.size, 0, none⟩) 8 8 (wv a) ∧ RdF wr (w.heap.size + 2) (some ⟨w.heap.size + 1, 0, none⟩) 4 4 (wv m) ∧
          OwnF wr w.heap.size 35 (some ⟨w.heap.size + 2, 0, none⟩) 4 4 (fun _ => .int .u64 0) ∧ OwnF wr w.heap.size 35 (some ⟨w.heap.size + 3, 0, none⟩) 4 4 (wv (shr a (64 * (8 - i) - k) % m)) ∧ Below w.heap.size w wr)
        (fun kk _ => 64 - (intOf kk).toNat)
      case atStart => exact ⟨0, by omega, rfl, rx, ry, oz, os, hb⟩
      case round =>
        clear rx ry oz os hb c1 g2 g3 g4 g5
        obtain ⟨k, hk, rfl, rx, ry, oz, os, hb⟩ := hrel
        by_cases hlt2 : k < 64
        · have g1 : (k : Int) < 64 := by omega
          have g2 : IntKind.i64.wrap (63 - (k : Int)) = 63 - (k : Int) := by rw [IntKind.wrap_i64]; omega
          have g3 : 0 ≤ 63 - (k : Int) := by omega
          have g5 : (63 - (k : Int)).toNat = 63 - k := by omega
          have e1 : bits .and .u64 ((wd a (7 - i) : Int) / 2 ^ (63 - k)) 1 = (bt a (64 * (7 - i) + (63 - k)) : Int) := by rw [and_one _ _ (wd_lt _ _), bt_wd8 _ _ _ hlt hlt2]
          obtain ⟨L, hL⟩ : ∃ L, L = shr a (64 * (8 - i) - k) % m := ⟨_, rfl⟩
          rw [← hL] at os
          have HL := Lib.hid hL
          clear hL
          have hLm : L < m := by rw [HL.out]; exact Nat.mod_lt _ h0
          have b1 := bt_le a (64 * (7 - i) + (63 - k))
          have hnext : (2 * L + bt a (64 * (7 - i) + (63 - k))) % m = shr a (64 * (8 - i) - (k + 1)) % m := by
            rw [HL.out, show 64 * (8 - i) - k = (64 * (7 - i) + (63 - k)) + 1 by omega, mod_step, show 64 * (8 - i) - (k + 1) = 64 * (7 - i) + (63 - k) by omega]
          have c0 := os.cell (k := 0) (by decide)
          have c1 := os.cell (k := 1) (by decide)
          have c2 := os.cell (k := 2) (by decide)
          have c3 := os.cell (k := 3) (by decide)
          have d0 := ry.cell0 (k := 0) (by decide)
          have d1 := ry.cell0 (k := 1) (by decide)
          have d2 := ry.cell0 (k := 2) (by decide)
          have d3 := ry.cell0 (k := 3) (by decide)
          unfold wv at c0 c1 c2 c3 d0 d1 d2 d3
          have HN := Lib.hid hnext
          clear hnext
          go_wp2_with fail
          refine wp_region_still_tail 7 (by kernel_rfl) (by kernel_rfl) ?_
          simp only [List.take_succ_cons, List.take_zero, List.drop_succ_cons, List.drop_zero]
          repeat still_step
          refine wpStill_nil ?_
          change wpList _ _ _ _ _ wr.drew
          go_wp2_with fail
          go_at_call 54
          refine (bring_any hLm hm b1 _).mono ?_
          rintro e w1 ⟨rfl, hb2⟩
          rw [HN.out]
          have hb3 : Below (w.heap.size + 4) wr w1 := (Below.refl _ wr).drew.trans (hb2.mono (by have := os.lt; simp; omega))
          have os' := os.keepAt (hb3.mono (by omega))
          have f0 := os'.free 0
          have f1 := os'.free 1
          have f2 := os'.free 2
          have f3 := os'.free 3
          clear c0 c1 c2 c3 d0 d1 d2 d3 HN hb2
          have c0 := os'.cell (k := 0) (by decide)
          have c1 := os'.cell (k := 1) (by decide)
          have c2 := os'.cell (k := 2) (by decide)
          have c3 := os'.cell (k := 3) (by decide)
          unfold wv at c0 c1 c2 c3
          obtain ⟨op, hbp⟩ := put4 os' (shr a (64 * (8 - i) - (k + 1)) % m)
          go_wp2
          have hbp3 := (hb3.mono (by omega : w.heap.size + 3 ≤ w.heap.size + 4)).trans hbp
          refine ⟨⟨k + 1, by omega, by go_num, rx.keep (hbp3.mono (by omega)), ry.keep (hbp3.mono (by omega)), oz.keepAt hbp3, op, hb.trans (hbp3.mono (by omega))⟩, by simp [intOf]; omega⟩
        · have hk' : k = 64 := by omega
          subst hk'
          go_wp2_with fail
          go_roundw
          case rel => exact ⟨i + 1, by omega, by go_num, rx, ry, oz, by rw [show 64 * (8 - (i + 1)) = 64 * (8 - i) - 64 by omega]; exact os, hb⟩
          case measure => simp [intOf]; omega
    · have hk' : i = 8 := by omega
      subst hk'
      rw [show 64 * (8 - 8) = 0 from rfl, shr_zero] at os
      have c0 := (os).cell (k := 0) (by decide)
      have c1 := (os).cell (k := 1) (by decide)
      have c2 := (os).cell (k := 2) (by decide)
      have c3 := (os).cell (k := 3) (by decide)
      have d0 := (oz).cell (k := 0) (by decide)
      have d1 := (oz).cell (k := 1) (by decide)
      have d2 := (oz).cell (k := 2) (by decide)
      have d3 := (oz).cell (k := 3) (by decide)
      have f0 := (oz).free 0
      have f1 := (oz).free 1
      have f2 := (oz).free 2
      have f3 := (oz).free 3
      unfold wv at c0 c1 c2 c3
      obtain ⟨wz, ez, r0, r1, r2, r3, rb⟩ := set4 oz (.int .u64 (wd (a % m) 0 : Int)) (.int .u64 (wd (a % m) 1 : Int)) (.int .u64 (wd (a % m) 2 : Int)) (.int .u64 (wd (a % m) 3 : Int))
      go_wp2
      rw [← ez]
      refine bodyPost_ret (v := .tuple #[.agg #[.int .u64 (wd (a % m) 0 : Int), .int .u64 (wd (a % m) 1 : Int), .int .u64 (wd (a % m) 2 : Int), .int .u64 (wd (a % m) 3 : Int)], .int .i64 0]) (by simp [results, Try.results50, go_sem, r0, r1, r2, r3]) rfl ⟨rfl, hb.trans rb⟩
end Go.Proofs.Ytecphnhdcphgbaa
