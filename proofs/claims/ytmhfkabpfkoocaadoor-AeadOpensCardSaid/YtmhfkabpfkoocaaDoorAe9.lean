/-
  Layer 12's AeadOpens, over contracts. Written by tools/gen_ae4.py. By an AI agent.
-/
import Derived.Test.YtmhfkabpfkoocaaDoorAe7
namespace Go.Proofs.YtmhfkabpfkoocaaDoor
open Go Go.RowKit
set_option maxRecDepth 20000
section
attribute [local irreducible] sealA sealE openA openE
theorem aeadopens_much {G : World → Prop} (kg : ∀ w w', G w → Below w.heap.size w w' → G w') (ks : CSealP G 9) (ko : COpenP G 12) {A0 A1 A2 A3 : Option Addr} {n0 n1 n2 n3 c0 c1 c2 c3 : Nat} (h : 1000 < n2 ∨ (n2 ≤ 1000 ∧ 2000 < n3)) (w : World) (hG : G w) :
    Calls Tryd.prog 4 #[.agg (partsV A0 n0 c0 A1 n1 c1 A2 n2 c2 A3 n3 c3)] w fun e w' => e = .returned (.bool true) ∧ Below w.heap.size w w' := by
  have hc := (Below.refl w.heap.size w).alloc (Nat.le_refl _) (.cells (partsV A0 n0 c0 A1 n1 c1 A2 n2 c2 A3 n3 c3) 24)
  have HG := Lib.hid (kg _ _ hG hc)
  have HC := Lib.hid hc
  have KA := Lib.hid (fun w h => awake12 kg ks ko w h)
  clear kg ks ko hc hG
  rcases h with h | ⟨h, h'⟩
  · have g1 : (1000 : Int) < (n2 : Int) := by omega
    go_enter Tryd.func4, Tryd.ntmps4
    go_wp2_with fail
    go_at_call 7
    refine (KA.out _ HG.out).mono ?_
    rintro e v1 ⟨rfl, hc⟩
    have hfin := HC.out.trans (hc.mono HC.out.size)
    go_wp2_with fail
    go_ret
    exact ⟨rfl, hfin⟩
  · have g1 : ¬ (1000 : Int) < (n2 : Int) := by omega
    have g2 : (2000 : Int) < (n3 : Int) := by omega
    go_enter Tryd.func4, Tryd.ntmps4
    go_wp2_with fail
    go_at_call 7
    refine (KA.out _ HG.out).mono ?_
    rintro e v1 ⟨rfl, hc⟩
    have hfin := HC.out.trans (hc.mono HC.out.size)
    go_wp2_with fail
    go_ret
    exact ⟨rfl, hfin⟩
set_option maxHeartbeats 6400000 in
theorem aeadopens_law {G : World → Prop} (kg : ∀ w w', G w → Below w.heap.size w w' → G w') (ks : CSealP G 9) (ko : COpenP G 12) (kr : COpenP G 13) {A0 A1 A2 A3 : Option Addr} {c0 c1 c2 c3 : Nat} {key nonce other b : List UInt8} (hl : key.length ≤ 140737488355328 ∧ nonce.length ≤ 140737488355328 ∧ other.length ≤ 140737488355328 ∧ b.length ≤ 140737488355328) (ho : other.length ≤ 1000) (hb : b.length ≤ 2000) (w : World) (hG : G w) (r0 : Rd w w.heap.size A0 c0 key) (r1 : Rd w w.heap.size A1 c1 nonce) (r2 : Rd w w.heap.size A2 c2 other) (r3 : Rd w w.heap.size A3 c3 b) :
    Calls Tryd.prog 4 #[.agg (partsV A0 key.length c0 A1 nonce.length c1 A2 other.length c2 A3 b.length c3)] w fun e w' => e = .returned (.bool true) ∧ Below w.heap.size w w' := by
  have kf := fun A0 A1 A2 A3 c0 c1 c2 c3 w hG => ko key nonce other b A0 A1 A2 A3 c0 c1 c2 c3 w ho (by omega) hG
  have kf2 := fun A0 A1 A2 A3 c0 c1 c2 c3 w hG => kr key nonce other b A0 A1 A2 A3 c0 c1 c2 c3 w ho (by omega) hG
  generalize openA key nonce other b = S at kf kf2
  generalize openE key nonce other b = er at kf kf2
  have KF := Lib.hid kf
  have KR := Lib.hid kf2
  clear kf kf2 kr
  have HL := Lib.hid hl
  have KA := Lib.hid (fun w h => awake12 kg ks ko w h)
  have kG := Lib.hid kg
  have g1 : ¬ (1000 : Int) < (other.length : Int) := by omega
  have g2 : ¬ (2000 : Int) < (b.length : Int) := by omega
  clear hl ho hb kg ks ko
  have op := OwnF.lit (w := w) (B := w.heap.size) 24 (Nat.le_refl _) (partsV A0 key.length c0 A1 nonce.length c1 A2 other.length c2 A3 b.length c3) 4 (partsF A0 key.length c0 A1 nonce.length c1 A2 other.length c2 A3 b.length c3) (by decide) (by rfl)
  have hc := (Below.refl w.heap.size w).alloc (Nat.le_refl _) (.cells (partsV A0 key.length c0 A1 nonce.length c1 A2 other.length c2 A3 b.length c3) 24)
  go_enter Tryd.func4, Tryd.ntmps4
  go_upto_region 1 with fail
  obtain ⟨v1, e1⟩ : ∃ v, v = w.alloc (.cells (partsV A0 key.length c0 A1 nonce.length c1 A2 other.length c2 A3 b.length c3) 24) := ⟨_, rfl⟩
  obtain ⟨gp, f1⟩ : ∃ g, g = w.heap.size := ⟨_, rfl⟩
  rw [← e1] at op hc ⊢
  replace op : OwnF v1 w.heap.size 24 (some ⟨gp, 0, none⟩) 4 4 (partsF A0 key.length c0 A1 nonce.length c1 A2 other.length c2 A3 b.length c3) := by rw [f1]; exact op
  rw [show Value.pointer (some ⟨w.heap.size, 0, none⟩) = .pointer (some ⟨gp, 0, none⟩) by rw [f1]]
  clear e1 f1
  replace r0 := (r0.keep hc).mono hc.size
  replace r1 := (r1.keep hc).mono hc.size
  replace r2 := (r2.keep hc).mono hc.size
  replace r3 := (r3.keep hc).mono hc.size
  have k0 : v1.cell? ⟨gp, 0, none⟩ = some (.slice A0 key.length c0) := OwnF.cell op (k := 0) (by decide)
  have k1 : v1.cell? ⟨gp, 1, none⟩ = some (.slice A1 nonce.length c1) := OwnF.cell op (k := 1) (by decide)
  have k2 : v1.cell? ⟨gp, 2, none⟩ = some (.slice A2 other.length c2) := OwnF.cell op (k := 2) (by decide)
  have k3 : v1.cell? ⟨gp, 3, none⟩ = some (.slice A3 b.length c3) := OwnF.cell op (k := 3) (by decide)
  go_wp2_with fail
  go_at_call 8
  refine (partsOwn HL.out v1 r0 r1 r2 r3).mono ?_
  rintro e v2 ⟨B0, d0, B1, d1, B2, d2, B3, d3, rfl, q0, q1, q2, q3, h0⟩
  clear k0 k1 k2 k3 g1 g2
  replace op := OwnF.keep op h0
  replace r0 := (r0.keep h0).mono h0.size
  replace r1 := (r1.keep h0).mono h0.size
  replace r2 := (r2.keep h0).mono h0.size
  replace r3 := (r3.keep h0).mono h0.size
  replace hc := hc.trans (h0.mono hc.size)
  clear h0
  have oq := OwnF.lit (w := v2) (B := w.heap.size) 24 hc.size (partsV B0 key.length d0 B1 nonce.length d1 B2 other.length d2 B3 b.length d3) 4 (partsF B0 key.length d0 B1 nonce.length d1 B2 other.length d2 B3 b.length d3) (by decide) (by rfl)
  have h0 := (Below.refl v2.heap.size v2).alloc (Nat.le_refl _) (.cells (partsV B0 key.length d0 B1 nonce.length d1 B2 other.length d2 B3 b.length d3) 24)
  replace op := OwnF.keep op h0
  replace r0 := (r0.keep h0).mono h0.size
  replace r1 := (r1.keep h0).mono h0.size
  replace r2 := (r2.keep h0).mono h0.size
  replace r3 := (r3.keep h0).mono h0.size
  replace q0 := (q0.keep h0).mono h0.size
  replace q1 := (q1.keep h0).mono h0.size
  replace q2 := (q2.keep h0).mono h0.size
  replace q3 := (q3.keep h0).mono h0.size
  replace hc := hc.trans (h0.mono hc.size)
  clear h0
  go_upto_region 4 with fail
  obtain ⟨v3, e3⟩ : ∃ v, v = v2.alloc (.cells (partsV B0 key.length d0 B1 nonce.length d1 B2 other.length d2 B3 b.length d3) 24) := ⟨_, rfl⟩
  obtain ⟨gq, f3⟩ : ∃ g, g = v2.heap.size := ⟨_, rfl⟩
  rw [← e3] at op oq hc r0 r1 r2 r3 q0 q1 q2 q3 ⊢
  rw [← f3] at oq ⊢
  clear e3 f3
  have j0 : v3.cell? ⟨gq, 0, none⟩ = some (.slice B0 key.length d0) := OwnF.cell oq (k := 0) (by decide)
  have j1 : v3.cell? ⟨gq, 1, none⟩ = some (.slice B1 nonce.length d1) := OwnF.cell oq (k := 1) (by decide)
  have j2 : v3.cell? ⟨gq, 2, none⟩ = some (.slice B2 other.length d2) := OwnF.cell oq (k := 2) (by decide)
  have j3 : v3.cell? ⟨gq, 3, none⟩ = some (.slice B3 b.length d3) := OwnF.cell oq (k := 3) (by decide)
  go_wp2_with fail
  go_at_call 12
  refine (KF.out _ _ _ _ _ _ _ _ v3 (kG.out _ _ hG hc) q0 q1 q2 q3).mono ?_
  rintro e v4 ⟨A4, c4, rfl, r4, h0⟩
  clear j0 j1 j2 j3
  replace op := OwnF.keep op h0
  replace oq := OwnF.keep oq h0
  replace r0 := (r0.keep h0).mono h0.size
  replace r1 := (r1.keep h0).mono h0.size
  replace r2 := (r2.keep h0).mono h0.size
  replace r3 := (r3.keep h0).mono h0.size
  replace q0 := (q0.keep h0).mono h0.size
  replace q1 := (q1.keep h0).mono h0.size
  replace q2 := (q2.keep h0).mono h0.size
  replace q3 := (q3.keep h0).mono h0.size
  replace hc := hc.trans (h0.mono hc.size)
  clear h0
  have k0 : v4.cell? ⟨gp, 0, none⟩ = some (.slice A0 key.length c0) := OwnF.cell op (k := 0) (by decide)
  have k1 : v4.cell? ⟨gp, 1, none⟩ = some (.slice A1 nonce.length c1) := OwnF.cell op (k := 1) (by decide)
  have k2 : v4.cell? ⟨gp, 2, none⟩ = some (.slice A2 other.length c2) := OwnF.cell op (k := 2) (by decide)
  have k3 : v4.cell? ⟨gp, 3, none⟩ = some (.slice A3 b.length c3) := OwnF.cell op (k := 3) (by decide)
  go_wp2_with fail
  go_at_call 13
  refine (KR.out _ _ _ _ _ _ _ _ v4 (kG.out _ _ hG hc) r0 r1 r2 r3).mono ?_
  rintro e v5 ⟨A6, c6, rfl, r6, h0⟩
  clear k0 k1 k2 k3
  replace op := OwnF.keep op h0
  replace oq := OwnF.keep oq h0
  replace r0 := (r0.keep h0).mono h0.size
  replace r1 := (r1.keep h0).mono h0.size
  replace r2 := (r2.keep h0).mono h0.size
  replace r3 := (r3.keep h0).mono h0.size
  replace q0 := (q0.keep h0).mono h0.size
  replace q1 := (q1.keep h0).mono h0.size
  replace q2 := (q2.keep h0).mono h0.size
  replace q3 := (q3.keep h0).mono h0.size
  replace r4 := (r4.keep h0).mono h0.size
  replace hc := hc.trans (h0.mono hc.size)
  clear h0
  have HP := Lib.hid (fun wz (hz : Below v5.heap.size v5 wz) => show wz.cell? ⟨gp, 0, none⟩ = some (.slice A0 key.length c0) ∧ wz.cell? ⟨gp, 1, none⟩ = some (.slice A1 nonce.length c1) ∧ wz.cell? ⟨gp, 2, none⟩ = some (.slice A2 other.length c2) ∧ wz.cell? ⟨gp, 3, none⟩ = some (.slice A3 b.length c3) from
    ⟨OwnF.cell (OwnF.keep op hz) (k := 0) (by decide), OwnF.cell (OwnF.keep op hz) (k := 1) (by decide), OwnF.cell (OwnF.keep op hz) (k := 2) (by decide), OwnF.cell (OwnF.keep op hz) (k := 3) (by decide)⟩)
  have HQ := Lib.hid (fun wz (hz : Below v5.heap.size v5 wz) => show wz.cell? ⟨gq, 0, none⟩ = some (.slice B0 key.length d0) ∧ wz.cell? ⟨gq, 1, none⟩ = some (.slice B1 nonce.length d1) ∧ wz.cell? ⟨gq, 2, none⟩ = some (.slice B2 other.length d2) ∧ wz.cell? ⟨gq, 3, none⟩ = some (.slice B3 b.length d3) from
    ⟨OwnF.cell (OwnF.keep oq hz) (k := 0) (by decide), OwnF.cell (OwnF.keep oq hz) (k := 1) (by decide), OwnF.cell (OwnF.keep oq hz) (k := 2) (by decide), OwnF.cell (OwnF.keep oq hz) (k := 3) (by decide)⟩)
  have HG := Lib.hid (fun wz (hz : Below v5.heap.size v5 wz) => kG.out _ _ hG (hc.trans (hz.mono hc.size)))
  clear op oq KF KR
  go_upto_region 6 with fail
  refine wp_region_obs 17 [45, 46, 47, 48, 49, 50, 51, 52, 53, 54, 55, 56, 57, 58, 59, 60, 61] [.byt S, .val (.string ⟨S.toArray⟩), .byt S, .val (.string ⟨S.toArray⟩), .val (.bool true), .val (.bool true), .val (.int .i64 (er : Int)), .val (.int .i64 (er : Int)), .val (.bool true), .val (.bool true), .val (.bool true), .val (.agg (partsV B0 key.length d0 B1 nonce.length d1 B2 other.length d2 B3 b.length d3)), .val (.agg (partsV A0 key.length c0 A1 nonce.length c1 A2 other.length c2 A3 b.length c3)), .val (.bool true), .val (.bool true), .val (.bool true), .val (.bool true)] (fun wz => Below v5.heap.size v5 wz) (by kernel_rfl) (fun wz wz' hz hb => hz.trans (hb.mono hz.size)) (Below.refl _ _) (fun u => by simp only [puts, List.foldl_cons, List.foldl_nil]; go_simp; exact rfl) ?_ ?_
  · simp only [List.take_succ_cons, List.take_zero]
    refine ObsS.cons (fun u w hS hd => ?_) ?_
    · exact Gv.run (.slice A4 S.length c4) rfl (by go_simp) (⟨_, _, rfl, (r4.keep hS).mono hS.size⟩)
    refine ObsS.cons (fun u w hS hd => ?_) ?_
    · obtain ⟨A45, c45, d45, g45⟩ : (Know.byt S).ok (u 45) w := hd 0 (by decide)
      rw [d45]
      exact Gv.run (.string ⟨S.toArray⟩) rfl (run_conv rfl rfl (run_str w 22 5 Tryd.underlying22 Tryd.underlying5 (dst := 9) Tryd.underlying9 g45)) rfl
    refine ObsS.cons (fun u w hS hd => ?_) ?_
    · exact Gv.run (.slice A6 S.length c6) rfl (by go_simp) (⟨_, _, rfl, (r6.keep hS).mono hS.size⟩)
    refine ObsS.cons (fun u w hS hd => ?_) ?_
    · obtain ⟨A47, c47, d47, g47⟩ : (Know.byt S).ok (u 47) w := hd 2 (by decide)
      rw [d47]
      exact Gv.run (.string ⟨S.toArray⟩) rfl (run_conv rfl rfl (run_str w 22 5 Tryd.underlying22 Tryd.underlying5 (dst := 9) Tryd.underlying9 g47)) rfl
    refine ObsS.cons (fun u w hS hd => ?_) ?_
    · have d46 : u 46 = .string ⟨S.toArray⟩ := hd 1 (by decide)
      rw [d46]
      have d48 : u 48 = .string ⟨S.toArray⟩ := hd 3 (by decide)
      rw [d48]
      exact Gv.run (.bool true) rfl (by go_simp) rfl
    refine ObsS.cons (fun u w hS hd => ?_) ?_
    · have d49 : u 49 = .bool true := hd 4 (by decide)
      rw [d49]
      exact Gv.run (.bool true) rfl (by go_simp) rfl
    refine ObsS.cons (fun u w hS hd => ?_) ?_
    · have d50 : u 50 = .bool true := hd 5 (by decide)
      rw [d50]
      exact Gv.run (.int .i64 (er : Int)) rfl (by go_simp) rfl
    refine ObsS.cons (fun u w hS hd => ?_) ?_
    · have d50 : u 50 = .bool true := hd 5 (by decide)
      rw [d50]
      exact Gv.run (.int .i64 (er : Int)) rfl (by go_simp) rfl
    refine ObsS.cons (fun u w hS hd => ?_) ?_
    · have d50 : u 50 = .bool true := hd 5 (by decide)
      rw [d50]
      have d51 : u 51 = .int .i64 (er : Int) := hd 6 (by decide)
      rw [d51]
      have d52 : u 52 = .int .i64 (er : Int) := hd 7 (by decide)
      rw [d52]
      exact Gv.run (.bool true) rfl (by go_simp) rfl
    refine ObsS.cons (fun u w hS hd => ?_) ?_
    · have d50 : u 50 = .bool true := hd 5 (by decide)
      rw [d50]
      have d53 : u 53 = .bool true := hd 8 (by decide)
      rw [d53]
      exact Gv.run (.bool true) rfl (by go_simp) rfl
    refine ObsS.cons (fun u w hS hd => ?_) ?_
    · have d54 : u 54 = .bool true := hd 9 (by decide)
      rw [d54]
      exact Gv.run (.bool true) rfl (by go_simp) rfl
    refine ObsS.cons (fun u w hS hd => ?_) ?_
    · have d55 : u 55 = .bool true := hd 10 (by decide)
      rw [d55]
      obtain ⟨k0, k1, k2, k3⟩ := HQ.out w hS
      exact Gv.run (.agg (partsV B0 key.length d0 B1 nonce.length d1 B2 other.length d2 B3 b.length d3)) (by rfl) (by go_simp) rfl
    refine ObsS.cons (fun u w hS hd => ?_) ?_
    · have d55 : u 55 = .bool true := hd 10 (by decide)
      rw [d55]
      obtain ⟨k0, k1, k2, k3⟩ := HP.out w hS
      exact Gv.run (.agg (partsV A0 key.length c0 A1 nonce.length c1 A2 other.length c2 A3 b.length c3)) (by rfl) (by go_simp) rfl
    refine ObsS.cons (fun u w hS hd => ?_) ?_
    · have d55 : u 55 = .bool true := hd 10 (by decide)
      rw [d55]
      have d56 : u 56 = .agg (partsV B0 key.length d0 B1 nonce.length d1 B2 other.length d2 B3 b.length d3) := hd 11 (by decide)
      rw [d56]
      have d57 : u 57 = .agg (partsV A0 key.length c0 A1 nonce.length c1 A2 other.length c2 A3 b.length c3) := hd 12 (by decide)
      rw [d57]
      refine Gv.call 11 #[.agg (partsV B0 key.length d0 B1 nonce.length d1 B2 other.length d2 B3 b.length d3), .agg (partsV A0 key.length c0 A1 nonce.length c1 A2 other.length c2 A3 b.length c3)] (by rfl) (by go_simp) ((partsSame w ((r0.keep hS).mono hS.size) ((r1.keep hS).mono hS.size) ((r2.keep hS).mono hS.size) ((r3.keep hS).mono hS.size) ((q0.keep hS).mono hS.size) ((q1.keep hS).mono hS.size) ((q2.keep hS).mono hS.size) ((q3.keep hS).mono hS.size)).mono ?_)
      rintro e w' ⟨rfl, hb⟩
      exact ⟨_, rfl, rfl, hb⟩
    refine ObsS.cons (fun u w hS hd => ?_) ?_
    · have d55 : u 55 = .bool true := hd 10 (by decide)
      rw [d55]
      have d58 : u 58 = .bool true := hd 13 (by decide)
      rw [d58]
      exact Gv.run (.bool true) rfl (by go_simp) rfl
    refine ObsS.cons (fun u w hS hd => ?_) ?_
    · have d59 : u 59 = .bool true := hd 14 (by decide)
      rw [d59]
      exact Gv.run (.bool true) rfl (by go_simp) rfl
    refine ObsS.cons (fun u w hS hd => ?_) ?_
    · have d60 : u 60 = .bool true := hd 15 (by decide)
      rw [d60]
      refine Gv.call 7 #[] rfl (by go_simp) ((KA.out w (HG.out w hS)).mono ?_)
      rintro e w' ⟨rfl, hb⟩
      exact ⟨_, rfl, rfl, hb⟩
    exact ObsS.nil
  intro u wz hS hd
  have d60 : u 60 = .bool true := hd 15 (by decide)
  rw [d60]
  have d61 : u 61 = .bool true := hd 16 (by decide)
  rw [d61]
  clear hd d60 d61
  simp only [List.drop_succ_cons, List.drop_zero]
  have hfin := hc.trans (hS.mono hc.size)
  go_wp2_with fail
  go_ret
  exact ⟨rfl, hfin⟩
end
end Go.Proofs.YtmhfkabpfkoocaaDoor
