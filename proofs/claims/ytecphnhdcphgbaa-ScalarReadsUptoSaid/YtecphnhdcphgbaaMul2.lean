import Derived.Test.YtecphnhdcphgbaaMul
import Derived.Deep.RegionWith
import Derived.StillTailTactics
namespace Go.Proofs.Ytecphnhdcphgbaa
open Go Go.RowKit
set_option maxHeartbeats 400000 in
theorem mul_any (x y : Nat) (hx : x < W4) (hy : y < W4) (w : World) :
    Calls Try.prog 47 #[nv x, nv y] w fun e w' => e = .returned (dv (x * y)) ∧ Below w.heap.size w w' := by
  obtain ⟨irx, iry, ioz, ios, bb⟩ := start8 x y w
  unfold nv dv
  go_enter Try.func47, Try.ntmps47
  go_wp2
  go_loopw [9] (fun i wr => ∃ k : Nat, k ≤ 4 ∧ i = .int .i64 k ∧ RdF wr (w.heap.size + 3) (some ⟨w.heap.size, 0, none⟩) 4 4 (wv x) ∧ RdF wr (w.heap.size + 3) (some ⟨w.heap.size + 1, 0, none⟩) 4 4 (wv y) ∧
      OwnF wr w.heap.size 55 (some ⟨w.heap.size + 2, 0, none⟩) 8 8 (fun _ => .int .u64 0) ∧ OwnF wr w.heap.size 55 (some ⟨w.heap.size + 3, 0, none⟩) 8 8 (wv (mt x y k)) ∧ Below w.heap.size w wr)
    (fun i _ => 4 - (intOf i).toNat)
  case atStart => exact ⟨0, by omega, rfl, irx, iry, ioz, ios.congr (fun j _ => by rw [mt_zero]; unfold wv wd dgt; simp), bb⟩
  case round =>
    obtain ⟨i, hi, rfl, rx, ry, oz, os, hb⟩ := hrel
    clear irx iry ioz ios bb
    by_cases hlt : i < 4
    · have g1 : (i : Int) < 4 := by omega
      go_wp2
      obtain ⟨w0, e0⟩ : ∃ w0 : World, w0 = wr := ⟨_, rfl⟩
      subst e0
      go_loopw [7, 12] (fun c kk wr => ∃ k : Nat, k ≤ 4 ∧ kk = .int .i64 k ∧ c = .int .u64 (mo x y i k : Int) ∧ RdF wr (w.heap.size + 3) (some ⟨w.heap.size, 0, none⟩) 4 4 (wv x) ∧ RdF wr (w.heap.size + 3) (some ⟨w.heap.size + 1, 0, none⟩) 4 4 (wv y) ∧
          OwnF wr w.heap.size 55 (some ⟨w.heap.size + 2, 0, none⟩) 8 8 (fun _ => .int .u64 0) ∧ OwnF wr w.heap.size 55 (some ⟨w.heap.size + 3, 0, none⟩) 8 8 (mc x y i k) ∧ Below w.heap.size w wr)
        (fun _ kk _ => 4 - (intOf kk).toNat)
      case atStart => exact ⟨0, by omega, rfl, by rw [show mo x y i 0 = 0 from mO_zero (by decide)]; rfl, rx, ry, oz, os.congr (fun j _ => (mc_start _ _ _ _).symm), hb⟩
      case round =>
        clear rx ry oz os hb
        obtain ⟨k, hk, rfl, rfl, rx, ry, oz, os, hb⟩ := hrel
        by_cases hlt2 : k < 4
        · have g2 : (k : Int) < 4 := by omega
          have c1 : wr.cell? ⟨w.heap.size, i, none⟩ = some (.int .u64 (wd x i : Int)) := rx.cell0 hlt
          have c2 : wr.cell? ⟨w.heap.size + 1, k, none⟩ = some (.int .u64 (wd y k : Int)) := ry.cell0 hlt2
          have c3 := os.cell (k := i + k) (by omega)
          rw [mc_at] at c3
          have f3 := os.free (i + k)
          have hw : IntKind.i64.wrap ((i : Int) + (k : Int)) = (i : Int) + (k : Int) := by rw [IntKind.wrap_i64]; omega
          have h8 : (i : Int) + (k : Int) < 8 := by omega
          have h0 : 0 ≤ (i : Int) + (k : Int) := by omega
          have tn : ((i : Int) + (k : Int)).toNat = i + k := by omega
          go_wp2
          refine wp_region_still_tail 21 (by kernel_rfl) (by kernel_rfl) ?_
          simp only [List.take_succ_cons, List.take_zero, List.drop_succ_cons, List.drop_zero]
          repeat (first | still_step | still_call (madd_any _ _ _ _ (wd_lt _ _) (wd_lt _ _) (wd_lt _ _) (mo_lt _ _ _ _) _))
          refine wpStill_nil ?_
          change wpList _ _ _ _ _ wr.drew
          go_wp2
          have hset : Below (w.heap.size + 3) wr (wr.setCell ⟨w.heap.size + 3, i + k, none⟩ (.int .u64 (mal (wd x i) (wd y k) (wd (mt x y i) (i + k)) (mo x y i k) : Int))) := (Below.refl (w.heap.size + 3) wr).setCell (Nat.le_refl (w.heap.size + 3)) _
          have os' := os.set_ (i + k) (.int .u64 (mal (wd x i) (wd y k) (wd (mt x y i) (i + k)) (mo x y i k) : Int))
          refine ⟨⟨k + 1, by omega, by go_num, by rw [mo_succ], (rx.keep hset).drew, (ry.keep hset).drew, (oz.keepAt hset).drew, ?_, (hb.trans (hset.mono (by omega))).drew⟩, by simp [intOf]; omega⟩
          exact (os'.congr fun j _ => mc_set _ _ _ _ _).drew
        · have hk' : k = 4 := by omega
          subst hk'
          have hw : IntKind.i64.wrap ((i : Int) + 4) = (i : Int) + 4 := by rw [IntKind.wrap_i64]; omega
          have h8 : (i : Int) + 4 < 8 := by omega
          have h0 : 0 ≤ (i : Int) + 4 := by omega
          have tn : ((i : Int) + 4).toNat = i + 4 := by omega
          have c3 := os.cell (k := i + 4) (by omega)
          have f3 := os.free (i + 4)
          go_wp2
          have hset : Below (w.heap.size + 3) wr (wr.setCell ⟨w.heap.size + 3, i + 4, none⟩ (.int .u64 (mo x y i 4 : Int))) := (Below.refl (w.heap.size + 3) wr).setCell (Nat.le_refl (w.heap.size + 3)) _
          have os' := os.set_ (i + 4) (.int .u64 (mo x y i 4 : Int))
          go_roundw
          case rel =>
            refine ⟨i + 1, by omega, by go_num, rx.keep hset, ry.keep hset, oz.keepAt hset, ?_, hb.trans (hset.mono (by omega))⟩
            exact os'.congr fun j _ => mc_end hy
          case measure => simp [intOf]; omega
    · have hk' : i = 4 := by omega
      subst hk'
      rw [mt_four y hx] at os
      have c0 := os.cell (k := 0) (by decide)
      have c1 := os.cell (k := 1) (by decide)
      have c2 := os.cell (k := 2) (by decide)
      have c3 := os.cell (k := 3) (by decide)
      have c4 := os.cell (k := 4) (by decide)
      have c5 := os.cell (k := 5) (by decide)
      have c6 := os.cell (k := 6) (by decide)
      have c7 := os.cell (k := 7) (by decide)
      unfold wv at c0 c1 c2 c3 c4 c5 c6 c7
      have d0 := oz.cell (k := 0) (by decide)
      have d1 := oz.cell (k := 1) (by decide)
      have d2 := oz.cell (k := 2) (by decide)
      have d3 := oz.cell (k := 3) (by decide)
      have d4 := oz.cell (k := 4) (by decide)
      have d5 := oz.cell (k := 5) (by decide)
      have d6 := oz.cell (k := 6) (by decide)
      have d7 := oz.cell (k := 7) (by decide)
      have f0 := oz.free 0
      have f1 := oz.free 1
      have f2 := oz.free 2
      have f3 := oz.free 3
      have f4 := oz.free 4
      have f5 := oz.free 5
      have f6 := oz.free 6
      have f7 := oz.free 7
      obtain ⟨wz, ez, r0, r1, r2, r3, r4, r5, r6, r7, rb⟩ := set8 oz (.int .u64 (wd (x * y) 0 : Int)) (.int .u64 (wd (x * y) 1 : Int)) (.int .u64 (wd (x * y) 2 : Int)) (.int .u64 (wd (x * y) 3 : Int)) (.int .u64 (wd (x * y) 4 : Int)) (.int .u64 (wd (x * y) 5 : Int)) (.int .u64 (wd (x * y) 6 : Int)) (.int .u64 (wd (x * y) 7 : Int))
      go_wp2
      rw [← ez]
      refine bodyPost_ret (v := .agg #[.int .u64 (wd (x * y) 0 : Int), .int .u64 (wd (x * y) 1 : Int), .int .u64 (wd (x * y) 2 : Int), .int .u64 (wd (x * y) 3 : Int), .int .u64 (wd (x * y) 4 : Int), .int .u64 (wd (x * y) 5 : Int), .int .u64 (wd (x * y) 6 : Int), .int .u64 (wd (x * y) 7 : Int)]) (by simp [results, Try.results47, go_sem, r0, r1, r2, r3, r4, r5, r6, r7]) rfl ⟨rfl, hb.trans rb⟩
end Go.Proofs.Ytecphnhdcphgbaa
