import Derived.Test.YtecphnhdcphgbaaBring
namespace Go.Proofs.Ytecphnhdcphgbaa
open Go Go.RowKit
set_option maxRecDepth 20000 in
set_option maxHeartbeats 400000 in
theorem bring_any {L b m : Nat} (hL : L < m) (hm : m < W4) (hb1 : b ≤ 1) (w : World) :
    Calls Try.prog 54 #[nv L, .int .u64 (b : Int), nv m] w fun e w' => e = .returned (nv ((2 * L + b) % m)) ∧ Below w.heap.size w w' := by
  obtain ⟨irx, iry, ioz, iod, ios, bb⟩ := start5 L m w
  rw [← bring_val hL hm hb1]
  obtain ⟨D, hD⟩ : ∃ D, D = 2 * L + b := ⟨_, rfl⟩
  rw [← hD]
  obtain ⟨p, hp⟩ : ∃ p, p = if pb (dc L b 4) (bw D m 4) = 0 then D else D + W4 - m := ⟨_, rfl⟩
  rw [← hp]
  have HD := Lib.hid hD
  clear hD
  have HP := Lib.hid hp
  clear hp
  unfold nv
  go_enter Try.func54, Try.ntmps54
  go_wp2
  go_loopw [9, 10, 13] (fun o c i wr => ∃ k : Nat, k ≤ 4 ∧ i = .int .i64 k ∧ o = .int .u64 (dc L b k : Int) ∧ c = .int .u64 (bw D m k : Int) ∧ RdF wr (w.heap.size + 2) (some ⟨w.heap.size, 0, none⟩) 4 4 (wv L) ∧ RdF wr (w.heap.size + 2) (some ⟨w.heap.size + 1, 0, none⟩) 4 4 (wv m) ∧
      OwnF wr w.heap.size 35 (some ⟨w.heap.size + 2, 0, none⟩) 4 4 (fun _ => .int .u64 0) ∧ OwnF wr w.heap.size 35 (some ⟨w.heap.size + 3, 0, none⟩) 4 4 (fw D k) ∧ OwnF wr w.heap.size 35 (some ⟨w.heap.size + 4, 0, none⟩) 4 4 (fw (D + W4 - m) k) ∧ Below w.heap.size w wr)
    (fun _ _ i _ => 4 - (intOf i).toNat)
  case atStart => exact ⟨0, by omega, rfl, by rw [dc_zero], by rw [bw_zero]; rfl, irx, iry, ioz, iod.congr (fun j _ => by rw [fw_out (by omega)]), ios.congr (fun j _ => by rw [fw_out (by omega)]), bb⟩
  case round =>
    obtain ⟨k, hk, rfl, rfl, rfl, rx, ry, oz, od, os, hb⟩ := hrel
    clear irx iry ioz iod ios bb
    by_cases hlt : k < 4
    · have g1 : (k : Int) < 4 := by omega
      have c1 : wr.cell? ⟨w.heap.size, k, none⟩ = some (.int .u64 (wd L k : Int)) := rx.cell0 hlt
      have c3 := od.cell hlt
      rw [fw_out (by omega)] at c3
      have f3 := od.free k
      have e1 := dbl_word L b k hb1
      rw [← HD.out] at e1
      have e2 : (wd L k : Int) / 9223372036854775808 = (dc L b (k + 1) : Int) := by rw [dc_succ hb1]; rfl
      go_wp2
      go_region
      have hset : Below (w.heap.size + 3) wr (wr.setCell ⟨w.heap.size + 3, k, none⟩ (.int .u64 (wd D k : Int))) := (Below.refl (w.heap.size + 3) wr).setCell (Nat.le_refl (w.heap.size + 3)) _
      have od' := ((od.set_ k (.int .u64 (wd D k : Int))).congr fun j _ => fw_set _ _ _).drew
      have rx' := (rx.keep (hset.mono (by omega))).drew
      have ry' := (ry.keep (hset.mono (by omega))).drew
      have oz' := (oz.keepAt hset).drew
      have os' := (os.other (p := ⟨w.heap.size + 3, k, none⟩) (by simp) (.int .u64 (wd D k : Int))).drew
      have hb' := (hb.trans (hset.mono (by omega))).drew
      have es : w.heap.size + 1 + 1 + 1 = w.heap.size + 3 := rfl
      rw [es]
      obtain ⟨w1, hw1⟩ : ∃ w1, w1 = (wr.setCell ⟨w.heap.size + 3, k, none⟩ (.int .u64 (wd D k : Int))).drew := ⟨_, rfl⟩
      rw [← hw1] at od' rx' ry' oz' os' hb' ⊢
      clear hw1 od rx ry oz os hb c1 c3 f3 hset e1 e2
      have c1 := od'.cell hlt
      rw [fw_in (by omega)] at c1
      have c2 : w1.cell? ⟨w.heap.size + 1, k, none⟩ = some (.int .u64 (wd m k : Int)) := ry'.cell0 hlt
      have c3 := os'.cell hlt
      rw [fw_out (by omega)] at c3
      have f3 := os'.free k
      have hsub := sub64_wd D m hlt hm
      go_wp2
      go_region
      have hset : Below (w.heap.size + 4) w1 (w1.setCell ⟨w.heap.size + 4, k, none⟩ (.int .u64 (wd (D + W4 - m) k : Int))) := (Below.refl (w.heap.size + 4) w1).setCell (Nat.le_refl (w.heap.size + 4)) _
      have os2 := ((os'.set_ k (.int .u64 (wd (D + W4 - m) k : Int))).congr fun j _ => fw_set _ _ _).drew
      go_wp2
      refine ⟨?_, ?measure⟩
      repeat apply Exists.intro
      refine ⟨?rel, rfl⟩
      case rel => refine ⟨k + 1, by omega, ?_⟩; exact ⟨by go_num, by go_num, by go_num, (rx'.keep (hset.mono (by omega))).drew, (ry'.keep (hset.mono (by omega))).drew, (oz'.keepAt (hset.mono (by omega))).drew, (od'.keepAt hset).drew, os2, (hb'.trans (hset.mono (by omega))).drew⟩
      case measure => simp [intOf]; omega
    · have hk' : k = 4 := by omega
      subst hk'
      have e1 := pb_eq (dc_le (L := L) hb1 4) (bw_le D m 4)
      have e2 : IntKind.u64.wrap (1 - (bw D m 4 : Int)) = 1 - (bw D m 4 : Int) := by have := bw_le D m 4; rw [IntKind.wrap_u64]; omega
      rw [e2] at e1
      have hpb : pb (dc L b 4) (bw D m 4) < 18446744073709551616 := by unfold pb; split <;> omega
      replace od := od.congr (g := wv D) fun j hj => by rw [fw_in hj]; rfl
      replace os := os.congr (g := wv (D + W4 - m)) fun j hj => by rw [fw_in hj]; rfl
      have c0 := (od).cell (k := 0) (by decide)
      have c1 := (od).cell (k := 1) (by decide)
      have c2 := (od).cell (k := 2) (by decide)
      have c3 := (od).cell (k := 3) (by decide)
      have d0 := (oz).cell (k := 0) (by decide)
      have d1 := (oz).cell (k := 1) (by decide)
      have d2 := (oz).cell (k := 2) (by decide)
      have d3 := (oz).cell (k := 3) (by decide)
      have f0 := (oz).free 0
      have f1 := (oz).free 1
      have f2 := (oz).free 2
      have f3 := (oz).free 3
      have x0 := os.cell (k := 0) (by decide)
      have x1 := os.cell (k := 1) (by decide)
      have x2 := os.cell (k := 2) (by decide)
      have x3 := os.cell (k := 3) (by decide)
      unfold wv at c0 c1 c2 c3 x0 x1 x2 x3
      go_wp2_with fail
      go_at_call 56
      refine (pick_any _ D (D + W4 - m) hpb _).mono ?_
      rintro e w1 ⟨rfl, hb2⟩
      rw [← HP.out]
      have hsz := os.lt
      have oz' := oz.keepAt (hb2.mono (by omega))
      clear c0 c1 c2 c3 d0 d1 d2 d3 f0 f1 f2 f3 x0 x1 x2 x3
      have c0 := (oz').cell (k := 0) (by decide)
      have c1 := (oz').cell (k := 1) (by decide)
      have c2 := (oz').cell (k := 2) (by decide)
      have c3 := (oz').cell (k := 3) (by decide)
      have d0 := (oz').cell (k := 0) (by decide)
      have d1 := (oz').cell (k := 1) (by decide)
      have d2 := (oz').cell (k := 2) (by decide)
      have d3 := (oz').cell (k := 3) (by decide)
      have f0 := (oz').free 0
      have f1 := (oz').free 1
      have f2 := (oz').free 2
      have f3 := (oz').free 3
      obtain ⟨wz, ez, r0, r1, r2, r3, rb⟩ := set4 oz' (.int .u64 (wd p 0 : Int)) (.int .u64 (wd p 1 : Int)) (.int .u64 (wd p 2 : Int)) (.int .u64 (wd p 3 : Int))
      go_wp2
      rw [← ez]
      refine bodyPost_ret (v := .agg #[.int .u64 (wd p 0 : Int), .int .u64 (wd p 1 : Int), .int .u64 (wd p 2 : Int), .int .u64 (wd p 3 : Int)]) (by simp [results, Try.results54, go_sem, r0, r1, r2, r3]) rfl ⟨rfl, (hb.trans (hb2.mono (by omega))).trans rb⟩
end Go.Proofs.Ytecphnhdcphgbaa
