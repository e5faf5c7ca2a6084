/-
  Layer 10's laws: StreamTwice. Written by tools/gen_y16.py. By an AI agent.
-/
import Derived.Test.YthbogplajbldaaaY18
namespace Go.Proofs.Ythbogplajbldaaa
open Go Go.RowKit
set_option maxRecDepth 20000
theorem twice_much {A0 A1 A2 : Option Addr} {n0 n1 n2 c0 c1 c2 ctr : Nat} (hn : 4000 < n2) (w : World) : Calls Try.prog 6 #[.agg (sealV A0 n0 c0 A1 n1 c1 ctr A2 n2 c2)] w fun e w' => e = .returned (.bool true) ∧ Below w.heap.size w w' := by
  have hc := (Below.refl w.heap.size w).alloc (Nat.le_refl _) (.cells (sealV A0 n0 c0 A1 n1 c1 ctr A2 n2 c2) 37)
  have HC := Lib.hid hc
  have g1 : (4000 : Int) < (n2 : Int) := by omega
  clear hc
  go_enter Try.func6, Try.ntmps6
  go_wp2_with fail
  go_at_call 10
  refine (awake10 _).mono ?_
  rintro e v1 ⟨rfl, hc⟩
  have hfin := HC.out.trans (hc.mono HC.out.size)
  go_wp2_with fail
  go_ret
  exact ⟨rfl, hfin⟩
set_option maxHeartbeats 6400000 in
theorem twice_no {A0 A1 A2 : Option Addr} {c0 c1 c2 ctr er : Nat} {key nonce b L : List UInt8} (hl : key.length ≤ 140737488355328) (hm : nonce.length ≤ 140737488355328) (hb : b.length ≤ 4000) (hL : L.length = 0) (her : er ≠ 0)
    (kg : ∀ (A B C : Option Addr) (c d e0 : Nat) (w : World), Rd w w.heap.size A c key → Rd w w.heap.size B d nonce → Rd w w.heap.size C e0 b → Calls Try.prog 14 #[.slice A key.length c, .slice B nonce.length d, .int .u32 (ctr : Int), .slice C b.length e0] w fun e w' => ∃ A2 c2, e = .returned (.tuple #[.slice A2 L.length c2, .int .i64 (er : Int)]) ∧ Rd w' w'.heap.size A2 c2 L ∧ Below w.heap.size w w')
    (w : World) (r0 : Rd w w.heap.size A0 c0 key) (q0 : Rd w w.heap.size A1 c1 nonce) (p0 : Rd w w.heap.size A2 c2 b) : Calls Try.prog 6 #[.agg (sealV A0 key.length c0 A1 nonce.length c1 ctr A2 b.length c2)] w fun e w' => e = .returned (.bool true) ∧ Below w.heap.size w w' := by
  have KG := Lib.hid kg
  have g1 : ((er : Int) != 0) = true := by simp; omega
  have g2 : ((L.length : Int) == 0) = true := by rw [hL]; rfl
  clear kg hL her
  have HL := Lib.hid hl
  have HM := Lib.hid hm
  have HN := Lib.hid (show b.length ≤ 140737488355328 by omega)
  have gb : ¬ (4000 : Int) < (b.length : Int) := by omega
  clear hl hm hb
  have ob := OwnF.lit (w := w) (B := w.heap.size) 37 (Nat.le_refl _) (sealV A0 key.length c0 A1 nonce.length c1 ctr A2 b.length c2) 4 (sealF A0 key.length c0 A1 nonce.length c1 ctr A2 b.length c2) (by decide) (by rfl)
  have hc := (Below.refl w.heap.size w).alloc (Nat.le_refl _) (.cells (sealV A0 key.length c0 A1 nonce.length c1 ctr A2 b.length c2) 37)
  go_enter Try.func6, Try.ntmps6
  go_upto_region 1 with fail
  obtain ⟨v1, e1⟩ : ∃ v, v = w.alloc (.cells (sealV A0 key.length c0 A1 nonce.length c1 ctr A2 b.length c2) 37) := ⟨_, rfl⟩
  obtain ⟨gk, eg⟩ : ∃ g, g = w.heap.size := ⟨_, rfl⟩
  rw [← e1] at ob hc ⊢
  replace ob : OwnF v1 w.heap.size 37 (some ⟨gk, 0, none⟩) 4 4 (sealF A0 key.length c0 A1 nonce.length c1 ctr A2 b.length c2) := by rw [eg]; exact ob
  rw [show Value.pointer (some ⟨w.heap.size, 0, none⟩) = .pointer (some ⟨gk, 0, none⟩) by rw [eg]]
  clear e1 eg
  replace r0 := (r0.keep hc).mono hc.size
  replace q0 := (q0.keep hc).mono hc.size
  replace p0 := (p0.keep hc).mono hc.size
  have HB := Lib.hid (fun wz (hz : Below v1.heap.size v1 wz) => show wz.cell? ⟨gk, 0, none⟩ = some (.slice A0 key.length c0) ∧ wz.cell? ⟨gk, 1, none⟩ = some (.slice A1 nonce.length c1) ∧ wz.cell? ⟨gk, 2, none⟩ = some (.int .u32 (ctr : Int)) ∧ wz.cell? ⟨gk, 3, none⟩ = some (.slice A2 b.length c2) from
    ⟨OwnF.cell (OwnF.keep ob hz) (k := 0) (by decide), OwnF.cell (OwnF.keep ob hz) (k := 1) (by decide), OwnF.cell (OwnF.keep ob hz) (k := 2) (by decide), OwnF.cell (OwnF.keep ob hz) (k := 3) (by decide)⟩)
  have k0 : v1.cell? ⟨gk, 0, none⟩ = some (.slice A0 key.length c0) := OwnF.cell ob (k := 0) (by decide)
  have k1 : v1.cell? ⟨gk, 1, none⟩ = some (.slice A1 nonce.length c1) := OwnF.cell ob (k := 1) (by decide)
  have k2 : v1.cell? ⟨gk, 2, none⟩ = some (.int .u32 (ctr : Int)) := OwnF.cell ob (k := 2) (by decide)
  have k3 : v1.cell? ⟨gk, 3, none⟩ = some (.slice A2 b.length c2) := OwnF.cell ob (k := 3) (by decide)
  go_upto_region 3 with fail
  clear gb k0 k1 k2 k3
  refine wp_region_inv 16 [13, 14, 15, 16, 17, 18, 19, 20, 21, 22, 23, 24, 12, 25, 26, 3] [.val (.pointer (some ⟨gk, 0, none⟩)), .byt key, .byt key, .val (.pointer (some ⟨gk, 1, none⟩)), .byt nonce, .byt nonce, .val (.pointer (some ⟨gk, 2, none⟩)), .val (.int .u32 (ctr : Int)), .val (.pointer (some ⟨gk, 3, none⟩)), .byt b, .byt b, .sat (tupE L er) tupE_keep, .sat (tupE L er) tupE_keep, .byt L, .val (.int .i64 (er : Int)), .byt L] (fun wz => Below v1.heap.size v1 wz) (by kernel_rfl) (by kernel_rfl) (fun wz wz' hz hb => hz.trans (hb.mono hz.size)) ((Below.refl _ _).drew) (fun u => by simp only [puts, List.foldl_cons, List.foldl_nil]; go_simp; exact rfl) ?_ ?_
  · simp only [List.take_succ_cons, List.take_zero]
    refine Obs.cons (fun u w hS hd => ?_) ?_
    · exact Gv.run (.pointer (some ⟨gk, 0, none⟩)) rfl (by go_simp) rfl
    refine Obs.cons (fun u w hS hd => ?_) ?_
    · have d13 : u 13 = .pointer (some ⟨gk, 0, none⟩) := dep hd 0 rfl
      rw [d13]
      obtain ⟨k0, k1, k2, k3⟩ := HB.out w hS
      exact Gv.run (.slice A0 key.length c0) rfl (by go_simp) ⟨_, _, rfl, (r0.keep hS).mono hS.size⟩
    refine Obs.cons (fun u w hS hd => ?_) ?_
    · obtain ⟨A14, c14, d14, g14⟩ : (Know.byt key).ok (u 14) w := dep hd 1 rfl
      rw [d14]
      refine Gv.call 11 #[.slice A14 key.length c14] rfl (by go_simp) ((own10_rd key _ _ w HL.out g14).mono ?_)
      rintro e w' ⟨A, c, rfl, R, hb⟩
      exact ⟨_, rfl, ⟨A, c, rfl, R⟩, hb⟩
    refine Obs.cons (fun u w hS hd => ?_) ?_
    · exact Gv.run (.pointer (some ⟨gk, 1, none⟩)) rfl (by go_simp) rfl
    refine Obs.cons (fun u w hS hd => ?_) ?_
    · have d16 : u 16 = .pointer (some ⟨gk, 1, none⟩) := dep hd 3 rfl
      rw [d16]
      obtain ⟨k0, k1, k2, k3⟩ := HB.out w hS
      exact Gv.run (.slice A1 nonce.length c1) rfl (by go_simp) ⟨_, _, rfl, (q0.keep hS).mono hS.size⟩
    refine Obs.cons (fun u w hS hd => ?_) ?_
    · obtain ⟨A17, c17, d17, g17⟩ : (Know.byt nonce).ok (u 17) w := dep hd 4 rfl
      rw [d17]
      refine Gv.call 11 #[.slice A17 nonce.length c17] rfl (by go_simp) ((own10_rd nonce _ _ w HM.out g17).mono ?_)
      rintro e w' ⟨A, c, rfl, R, hb⟩
      exact ⟨_, rfl, ⟨A, c, rfl, R⟩, hb⟩
    refine Obs.cons (fun u w hS hd => ?_) ?_
    · exact Gv.run (.pointer (some ⟨gk, 2, none⟩)) rfl (by go_simp) rfl
    refine Obs.cons (fun u w hS hd => ?_) ?_
    · have d19 : u 19 = .pointer (some ⟨gk, 2, none⟩) := dep hd 6 rfl
      rw [d19]
      obtain ⟨k0, k1, k2, k3⟩ := HB.out w hS
      exact Gv.run (.int .u32 (ctr : Int)) rfl (by go_simp) rfl
    refine Obs.cons (fun u w hS hd => ?_) ?_
    · exact Gv.run (.pointer (some ⟨gk, 3, none⟩)) rfl (by go_simp) rfl
    refine Obs.cons (fun u w hS hd => ?_) ?_
    · have d21 : u 21 = .pointer (some ⟨gk, 3, none⟩) := dep hd 8 rfl
      rw [d21]
      obtain ⟨k0, k1, k2, k3⟩ := HB.out w hS
      exact Gv.run (.slice A2 b.length c2) rfl (by go_simp) ⟨_, _, rfl, (p0.keep hS).mono hS.size⟩
    refine Obs.cons (fun u w hS hd => ?_) ?_
    · obtain ⟨A22, c22, d22, g22⟩ : (Know.byt b).ok (u 22) w := dep hd 9 rfl
      rw [d22]
      refine Gv.call 11 #[.slice A22 b.length c22] rfl (by go_simp) ((own10_rd b _ _ w HN.out g22).mono ?_)
      rintro e w' ⟨A, c, rfl, R, hb⟩
      exact ⟨_, rfl, ⟨A, c, rfl, R⟩, hb⟩
    refine Obs.cons (fun u w hS hd => ?_) ?_
    · obtain ⟨A15, c15, d15, g15⟩ : (Know.byt key).ok (u 15) w := dep hd 2 rfl
      rw [d15]
      obtain ⟨A18, c18, d18, g18⟩ : (Know.byt nonce).ok (u 18) w := dep hd 5 rfl
      rw [d18]
      have d20 : u 20 = .int .u32 (ctr : Int) := dep hd 7 rfl
      rw [d20]
      obtain ⟨A23, c23, d23, g23⟩ : (Know.byt b).ok (u 23) w := dep hd 10 rfl
      rw [d23]
      refine Gv.call 14 #[.slice A15 key.length c15, .slice A18 nonce.length c18, .int .u32 (ctr : Int), .slice A23 b.length c23] rfl (by go_simp) ((KG.out _ _ _ _ _ _ w g15 g18 g23).mono ?_)
      rintro e w' ⟨A, c, rfl, R, hb⟩
      exact ⟨_, rfl, ⟨A, c, rfl, R⟩, hb⟩
    refine Obs.cons (fun u w hS hd => ?_) ?_
    · obtain ⟨A, c, d24, g24⟩ : (Know.sat (tupE L er) tupE_keep).ok (u 24) w := dep hd 11 rfl
      rw [d24]
      exact Gv.run (.tuple #[.slice A L.length c, .int .i64 (er : Int)]) rfl (by go_simp) ⟨_, _, rfl, g24⟩
    refine Obs.cons (fun u w hS hd => ?_) ?_
    · obtain ⟨A, c, d12, g12⟩ : (Know.sat (tupE L er) tupE_keep).ok (u 12) w := dep hd 12 rfl
      rw [d12]
      exact Gv.run (.slice A L.length c) rfl (by go_simp) ⟨_, _, rfl, g12⟩
    refine Obs.cons (fun u w hS hd => ?_) ?_
    · obtain ⟨A, c, d12, g12⟩ : (Know.sat (tupE L er) tupE_keep).ok (u 12) w := dep hd 12 rfl
      rw [d12]
      exact Gv.run (.int .i64 (er : Int)) rfl (by go_simp) rfl
    refine Obs.cons (fun u w hS hd => ?_) ?_
    · obtain ⟨A25, c25, d25, g25⟩ : (Know.byt L).ok (u 25) w := dep hd 13 rfl
      rw [d25]
      exact Gv.run (.slice A25 L.length c25) rfl (by go_simp) ⟨_, _, rfl, g25⟩
    exact Obs.nil
  intro u wz hS hd
  obtain ⟨A3, c3, d3, g3⟩ : (Know.byt L).ok (u 3) wz := hd 15 (by decide)
  rw [d3]
  have d26 : u 26 = .int .i64 (er : Int) := hd 14 (by decide)
  rw [d26]
  clear hd d3 d26
  simp only [List.drop_succ_cons, List.drop_zero]
  replace hc := hc.trans (hS.mono hc.size)
  clear HB KG
  go_wp2_with fail
  go_at_call 10
  refine (awake10 wz).mono ?_
  rintro e y5 ⟨rfl, h0⟩
  replace hc := hc.trans (h0.mono hc.size)
  go_wp2_with fail
  go_ret
  exact ⟨rfl, hc⟩
set_option maxHeartbeats 6400000 in
theorem twice_yes {A0 A1 A2 : Option Addr} {c0 c1 c2 ctr : Nat} {key nonce b L : List UInt8} (hl : key.length ≤ 140737488355328) (hm : nonce.length ≤ 140737488355328) (hb : b.length ≤ 4000) (hL : L.length = b.length)
    (kg : ∀ (A B C : Option Addr) (c d e0 : Nat) (w : World), Rd w w.heap.size A c key → Rd w w.heap.size B d nonce → Rd w w.heap.size C e0 b → Calls Try.prog 14 #[.slice A key.length c, .slice B nonce.length d, .int .u32 (ctr : Int), .slice C b.length e0] w fun e w' => ∃ A2 c2, e = .returned (.tuple #[.slice A2 L.length c2, .int .i64 0]) ∧ Rd w' w'.heap.size A2 c2 L ∧ Below w.heap.size w w')
    (ky : ∀ (A B C : Option Addr) (c d e0 : Nat) (w : World), Rd w w.heap.size A c key → Rd w w.heap.size B d nonce → Rd w w.heap.size C e0 L → Calls Try.prog 14 #[.slice A key.length c, .slice B nonce.length d, .int .u32 (ctr : Int), .slice C L.length e0] w fun e w' => ∃ A2 c2, e = .returned (.tuple #[.slice A2 b.length c2, .int .i64 0]) ∧ Rd w' w'.heap.size A2 c2 b ∧ Below w.heap.size w w')
    (w : World) (r0 : Rd w w.heap.size A0 c0 key) (q0 : Rd w w.heap.size A1 c1 nonce) (p0 : Rd w w.heap.size A2 c2 b) : Calls Try.prog 6 #[.agg (sealV A0 key.length c0 A1 nonce.length c1 ctr A2 b.length c2)] w fun e w' => e = .returned (.bool true) ∧ Below w.heap.size w w' := by
  have KG := Lib.hid kg
  have KY := Lib.hid ky
  have HQ := Lib.hid (show ((L.length : Int) == (b.length : Int)) = true by rw [hL]; simp)
  clear kg ky hL
  have HL := Lib.hid hl
  have HM := Lib.hid hm
  have HN := Lib.hid (show b.length ≤ 140737488355328 by omega)
  have gb : ¬ (4000 : Int) < (b.length : Int) := by omega
  clear hl hm hb
  have ob := OwnF.lit (w := w) (B := w.heap.size) 37 (Nat.le_refl _) (sealV A0 key.length c0 A1 nonce.length c1 ctr A2 b.length c2) 4 (sealF A0 key.length c0 A1 nonce.length c1 ctr A2 b.length c2) (by decide) (by rfl)
  have hc := (Below.refl w.heap.size w).alloc (Nat.le_refl _) (.cells (sealV A0 key.length c0 A1 nonce.length c1 ctr A2 b.length c2) 37)
  go_enter Try.func6, Try.ntmps6
  go_upto_region 1 with fail
  obtain ⟨v1, e1⟩ : ∃ v, v = w.alloc (.cells (sealV A0 key.length c0 A1 nonce.length c1 ctr A2 b.length c2) 37) := ⟨_, rfl⟩
  obtain ⟨gk, eg⟩ : ∃ g, g = w.heap.size := ⟨_, rfl⟩
  rw [← e1] at ob hc ⊢
  replace ob : OwnF v1 w.heap.size 37 (some ⟨gk, 0, none⟩) 4 4 (sealF A0 key.length c0 A1 nonce.length c1 ctr A2 b.length c2) := by rw [eg]; exact ob
  rw [show Value.pointer (some ⟨w.heap.size, 0, none⟩) = .pointer (some ⟨gk, 0, none⟩) by rw [eg]]
  clear e1 eg
  replace r0 := (r0.keep hc).mono hc.size
  replace q0 := (q0.keep hc).mono hc.size
  replace p0 := (p0.keep hc).mono hc.size
  have HB := Lib.hid (fun wz (hz : Below v1.heap.size v1 wz) => show wz.cell? ⟨gk, 0, none⟩ = some (.slice A0 key.length c0) ∧ wz.cell? ⟨gk, 1, none⟩ = some (.slice A1 nonce.length c1) ∧ wz.cell? ⟨gk, 2, none⟩ = some (.int .u32 (ctr : Int)) ∧ wz.cell? ⟨gk, 3, none⟩ = some (.slice A2 b.length c2) from
    ⟨OwnF.cell (OwnF.keep ob hz) (k := 0) (by decide), OwnF.cell (OwnF.keep ob hz) (k := 1) (by decide), OwnF.cell (OwnF.keep ob hz) (k := 2) (by decide), OwnF.cell (OwnF.keep ob hz) (k := 3) (by decide)⟩)
  have k0 : v1.cell? ⟨gk, 0, none⟩ = some (.slice A0 key.length c0) := OwnF.cell ob (k := 0) (by decide)
  have k1 : v1.cell? ⟨gk, 1, none⟩ = some (.slice A1 nonce.length c1) := OwnF.cell ob (k := 1) (by decide)
  have k2 : v1.cell? ⟨gk, 2, none⟩ = some (.int .u32 (ctr : Int)) := OwnF.cell ob (k := 2) (by decide)
  have k3 : v1.cell? ⟨gk, 3, none⟩ = some (.slice A2 b.length c2) := OwnF.cell ob (k := 3) (by decide)
  go_upto_region 3 with fail
  clear gb k0 k1 k2 k3
  refine wp_region_inv 16 [13, 14, 15, 16, 17, 18, 19, 20, 21, 22, 23, 24, 12, 25, 26, 3] [.val (.pointer (some ⟨gk, 0, none⟩)), .byt key, .byt key, .val (.pointer (some ⟨gk, 1, none⟩)), .byt nonce, .byt nonce, .val (.pointer (some ⟨gk, 2, none⟩)), .val (.int .u32 (ctr : Int)), .val (.pointer (some ⟨gk, 3, none⟩)), .byt b, .byt b, .sat (tupE L 0) tupE_keep, .sat (tupE L 0) tupE_keep, .byt L, .val (.int .i64 0), .byt L] (fun wz => Below v1.heap.size v1 wz) (by kernel_rfl) (by kernel_rfl) (fun wz wz' hz hb => hz.trans (hb.mono hz.size)) ((Below.refl _ _).drew) (fun u => by simp only [puts, List.foldl_cons, List.foldl_nil]; go_simp; exact rfl) ?_ ?_
  · simp only [List.take_succ_cons, List.take_zero]
    refine Obs.cons (fun u w hS hd => ?_) ?_
    · exact Gv.run (.pointer (some ⟨gk, 0, none⟩)) rfl (by go_simp) rfl
    refine Obs.cons (fun u w hS hd => ?_) ?_
    · have d13 : u 13 = .pointer (some ⟨gk, 0, none⟩) := dep hd 0 rfl
      rw [d13]
      obtain ⟨k0, k1, k2, k3⟩ := HB.out w hS
      exact Gv.run (.slice A0 key.length c0) rfl (by go_simp) ⟨_, _, rfl, (r0.keep hS).mono hS.size⟩
    refine Obs.cons (fun u w hS hd => ?_) ?_
    · obtain ⟨A14, c14, d14, g14⟩ : (Know.byt key).ok (u 14) w := dep hd 1 rfl
      rw [d14]
      refine Gv.call 11 #[.slice A14 key.length c14] rfl (by go_simp) ((own10_rd key _ _ w HL.out g14).mono ?_)
      rintro e w' ⟨A, c, rfl, R, hb⟩
      exact ⟨_, rfl, ⟨A, c, rfl, R⟩, hb⟩
    refine Obs.cons (fun u w hS hd => ?_) ?_
    · exact Gv.run (.pointer (some ⟨gk, 1, none⟩)) rfl (by go_simp) rfl
    refine Obs.cons (fun u w hS hd => ?_) ?_
    · have d16 : u 16 = .pointer (some ⟨gk, 1, none⟩) := dep hd 3 rfl
      rw [d16]
      obtain ⟨k0, k1, k2, k3⟩ := HB.out w hS
      exact Gv.run (.slice A1 nonce.length c1) rfl (by go_simp) ⟨_, _, rfl, (q0.keep hS).mono hS.size⟩
    refine Obs.cons (fun u w hS hd => ?_) ?_
    · obtain ⟨A17, c17, d17, g17⟩ : (Know.byt nonce).ok (u 17) w := dep hd 4 rfl
      rw [d17]
      refine Gv.call 11 #[.slice A17 nonce.length c17] rfl (by go_simp) ((own10_rd nonce _ _ w HM.out g17).mono ?_)
      rintro e w' ⟨A, c, rfl, R, hb⟩
      exact ⟨_, rfl, ⟨A, c, rfl, R⟩, hb⟩
    refine Obs.cons (fun u w hS hd => ?_) ?_
    · exact Gv.run (.pointer (some ⟨gk, 2, none⟩)) rfl (by go_simp) rfl
    refine Obs.cons (fun u w hS hd => ?_) ?_
    · have d19 : u 19 = .pointer (some ⟨gk, 2, none⟩) := dep hd 6 rfl
      rw [d19]
      obtain ⟨k0, k1, k2, k3⟩ := HB.out w hS
      exact Gv.run (.int .u32 (ctr : Int)) rfl (by go_simp) rfl
    refine Obs.cons (fun u w hS hd => ?_) ?_
    · exact Gv.run (.pointer (some ⟨gk, 3, none⟩)) rfl (by go_simp) rfl
    refine Obs.cons (fun u w hS hd => ?_) ?_
    · have d21 : u 21 = .pointer (some ⟨gk, 3, none⟩) := dep hd 8 rfl
      rw [d21]
      obtain ⟨k0, k1, k2, k3⟩ := HB.out w hS
      exact Gv.run (.slice A2 b.length c2) rfl (by go_simp) ⟨_, _, rfl, (p0.keep hS).mono hS.size⟩
    refine Obs.cons (fun u w hS hd => ?_) ?_
    · obtain ⟨A22, c22, d22, g22⟩ : (Know.byt b).ok (u 22) w := dep hd 9 rfl
      rw [d22]
      refine Gv.call 11 #[.slice A22 b.length c22] rfl (by go_simp) ((own10_rd b _ _ w HN.out g22).mono ?_)
      rintro e w' ⟨A, c, rfl, R, hb⟩
      exact ⟨_, rfl, ⟨A, c, rfl, R⟩, hb⟩
    refine Obs.cons (fun u w hS hd => ?_) ?_
    · obtain ⟨A15, c15, d15, g15⟩ : (Know.byt key).ok (u 15) w := dep hd 2 rfl
      rw [d15]
      obtain ⟨A18, c18, d18, g18⟩ : (Know.byt nonce).ok (u 18) w := dep hd 5 rfl
      rw [d18]
      have d20 : u 20 = .int .u32 (ctr : Int) := dep hd 7 rfl
      rw [d20]
      obtain ⟨A23, c23, d23, g23⟩ : (Know.byt b).ok (u 23) w := dep hd 10 rfl
      rw [d23]
      refine Gv.call 14 #[.slice A15 key.length c15, .slice A18 nonce.length c18, .int .u32 (ctr : Int), .slice A23 b.length c23] rfl (by go_simp) ((KG.out _ _ _ _ _ _ w g15 g18 g23).mono ?_)
      rintro e w' ⟨A, c, rfl, R, hb⟩
      exact ⟨_, rfl, ⟨A, c, rfl, R⟩, hb⟩
    refine Obs.cons (fun u w hS hd => ?_) ?_
    · obtain ⟨A, c, d24, g24⟩ : (Know.sat (tupE L 0) tupE_keep).ok (u 24) w := dep hd 11 rfl
      rw [d24]
      exact Gv.run (.tuple #[.slice A L.length c, .int .i64 0]) rfl (by go_simp) ⟨_, _, rfl, g24⟩
    refine Obs.cons (fun u w hS hd => ?_) ?_
    · obtain ⟨A, c, d12, g12⟩ : (Know.sat (tupE L 0) tupE_keep).ok (u 12) w := dep hd 12 rfl
      rw [d12]
      exact Gv.run (.slice A L.length c) rfl (by go_simp) ⟨_, _, rfl, g12⟩
    refine Obs.cons (fun u w hS hd => ?_) ?_
    · obtain ⟨A, c, d12, g12⟩ : (Know.sat (tupE L 0) tupE_keep).ok (u 12) w := dep hd 12 rfl
      rw [d12]
      exact Gv.run (.int .i64 0) rfl (by go_simp) rfl
    refine Obs.cons (fun u w hS hd => ?_) ?_
    · obtain ⟨A25, c25, d25, g25⟩ : (Know.byt L).ok (u 25) w := dep hd 13 rfl
      rw [d25]
      exact Gv.run (.slice A25 L.length c25) rfl (by go_simp) ⟨_, _, rfl, g25⟩
    exact Obs.nil
  intro u wz hS hd
  obtain ⟨A3, c3, d3, g3⟩ : (Know.byt L).ok (u 3) wz := hd 15 (by decide)
  rw [d3]
  have d26 : u 26 = .int .i64 0 := hd 14 (by decide)
  rw [d26]
  clear hd d3 d26
  simp only [List.drop_succ_cons, List.drop_zero]
  clear HB KG
  obtain ⟨y2, ey⟩ : ∃ v, v = wz := ⟨_, rfl⟩
  rw [← ey] at g3 hS ⊢
  clear ey
  replace ob := OwnF.keep ob hS
  replace r0 := (r0.keep hS).mono hS.size
  replace q0 := (q0.keep hS).mono hS.size
  replace p0 := (p0.keep hS).mono hS.size
  replace hc := hc.trans (hS.mono hc.size)
  clear hS
  have HB := Lib.hid (fun wz (hz : Below y2.heap.size y2 wz) => show wz.cell? ⟨gk, 0, none⟩ = some (.slice A0 key.length c0) ∧ wz.cell? ⟨gk, 1, none⟩ = some (.slice A1 nonce.length c1) ∧ wz.cell? ⟨gk, 2, none⟩ = some (.int .u32 (ctr : Int)) ∧ wz.cell? ⟨gk, 3, none⟩ = some (.slice A2 b.length c2) from
    ⟨OwnF.cell (OwnF.keep ob hz) (k := 0) (by decide), OwnF.cell (OwnF.keep ob hz) (k := 1) (by decide), OwnF.cell (OwnF.keep ob hz) (k := 2) (by decide), OwnF.cell (OwnF.keep ob hz) (k := 3) (by decide)⟩)
  go_upto_region 6 with fail
  refine wp_region_inv 14 [36, 37, 38, 39, 40, 41, 42, 43, 44, 45, 35, 46, 47, 5] [.val (.pointer (some ⟨gk, 0, none⟩)), .byt key, .byt key, .val (.pointer (some ⟨gk, 1, none⟩)), .byt nonce, .byt nonce, .val (.pointer (some ⟨gk, 2, none⟩)), .val (.int .u32 (ctr : Int)), .byt L, .sat (tupE b 0) tupE_keep, .sat (tupE b 0) tupE_keep, .byt b, .val (.int .i64 0), .byt b] (fun wz => Below y2.heap.size y2 wz) (by kernel_rfl) (by kernel_rfl) (fun wz wz' hz hb => hz.trans (hb.mono hz.size)) ((Below.refl _ _).drew) (fun u => by simp only [puts, List.foldl_cons, List.foldl_nil]; go_simp; exact rfl) ?_ ?_
  · simp only [List.take_succ_cons, List.take_zero]
    refine Obs.cons (fun u w hS hd => ?_) ?_
    · exact Gv.run (.pointer (some ⟨gk, 0, none⟩)) rfl (by go_simp) rfl
    refine Obs.cons (fun u w hS hd => ?_) ?_
    · have d36 : u 36 = .pointer (some ⟨gk, 0, none⟩) := dep hd 0 rfl
      rw [d36]
      obtain ⟨k0, k1, k2, k3⟩ := HB.out w hS
      exact Gv.run (.slice A0 key.length c0) rfl (by go_simp) ⟨_, _, rfl, (r0.keep hS).mono hS.size⟩
    refine Obs.cons (fun u w hS hd => ?_) ?_
    · obtain ⟨A37, c37, d37, g37⟩ : (Know.byt key).ok (u 37) w := dep hd 1 rfl
      rw [d37]
      refine Gv.call 11 #[.slice A37 key.length c37] rfl (by go_simp) ((own10_rd key _ _ w HL.out g37).mono ?_)
      rintro e w' ⟨A, c, rfl, R, hb⟩
      exact ⟨_, rfl, ⟨A, c, rfl, R⟩, hb⟩
    refine Obs.cons (fun u w hS hd => ?_) ?_
    · exact Gv.run (.pointer (some ⟨gk, 1, none⟩)) rfl (by go_simp) rfl
    refine Obs.cons (fun u w hS hd => ?_) ?_
    · have d39 : u 39 = .pointer (some ⟨gk, 1, none⟩) := dep hd 3 rfl
      rw [d39]
      obtain ⟨k0, k1, k2, k3⟩ := HB.out w hS
      exact Gv.run (.slice A1 nonce.length c1) rfl (by go_simp) ⟨_, _, rfl, (q0.keep hS).mono hS.size⟩
    refine Obs.cons (fun u w hS hd => ?_) ?_
    · obtain ⟨A40, c40, d40, g40⟩ : (Know.byt nonce).ok (u 40) w := dep hd 4 rfl
      rw [d40]
      refine Gv.call 11 #[.slice A40 nonce.length c40] rfl (by go_simp) ((own10_rd nonce _ _ w HM.out g40).mono ?_)
      rintro e w' ⟨A, c, rfl, R, hb⟩
      exact ⟨_, rfl, ⟨A, c, rfl, R⟩, hb⟩
    refine Obs.cons (fun u w hS hd => ?_) ?_
    · exact Gv.run (.pointer (some ⟨gk, 2, none⟩)) rfl (by go_simp) rfl
    refine Obs.cons (fun u w hS hd => ?_) ?_
    · have d42 : u 42 = .pointer (some ⟨gk, 2, none⟩) := dep hd 6 rfl
      rw [d42]
      obtain ⟨k0, k1, k2, k3⟩ := HB.out w hS
      exact Gv.run (.int .u32 (ctr : Int)) rfl (by go_simp) rfl
    refine Obs.cons (fun u w hS hd => ?_) ?_
    · exact Gv.run (.slice A3 L.length c3) rfl (by go_simp) (⟨_, _, rfl, (g3.keep hS).mono hS.size⟩)
    refine Obs.cons (fun u w hS hd => ?_) ?_
    · obtain ⟨A38, c38, d38, g38⟩ : (Know.byt key).ok (u 38) w := dep hd 2 rfl
      rw [d38]
      obtain ⟨A41, c41, d41, g41⟩ : (Know.byt nonce).ok (u 41) w := dep hd 5 rfl
      rw [d41]
      have d43 : u 43 = .int .u32 (ctr : Int) := dep hd 7 rfl
      rw [d43]
      obtain ⟨A44, c44, d44, g44⟩ : (Know.byt L).ok (u 44) w := dep hd 8 rfl
      rw [d44]
      refine Gv.call 14 #[.slice A38 key.length c38, .slice A41 nonce.length c41, .int .u32 (ctr : Int), .slice A44 L.length c44] rfl (by go_simp) ((KY.out _ _ _ _ _ _ w g38 g41 g44).mono ?_)
      rintro e w' ⟨A, c, rfl, R, hb⟩
      exact ⟨_, rfl, ⟨A, c, rfl, R⟩, hb⟩
    refine Obs.cons (fun u w hS hd => ?_) ?_
    · obtain ⟨A, c, d45, g45⟩ : (Know.sat (tupE b 0) tupE_keep).ok (u 45) w := dep hd 9 rfl
      rw [d45]
      exact Gv.run (.tuple #[.slice A b.length c, .int .i64 0]) rfl (by go_simp) ⟨_, _, rfl, g45⟩
    refine Obs.cons (fun u w hS hd => ?_) ?_
    · obtain ⟨A, c, d35, g35⟩ : (Know.sat (tupE b 0) tupE_keep).ok (u 35) w := dep hd 10 rfl
      rw [d35]
      exact Gv.run (.slice A b.length c) rfl (by go_simp) ⟨_, _, rfl, g35⟩
    refine Obs.cons (fun u w hS hd => ?_) ?_
    · obtain ⟨A, c, d35, g35⟩ : (Know.sat (tupE b 0) tupE_keep).ok (u 35) w := dep hd 10 rfl
      rw [d35]
      exact Gv.run (.int .i64 0) rfl (by go_simp) rfl
    refine Obs.cons (fun u w hS hd => ?_) ?_
    · obtain ⟨A46, c46, d46, g46⟩ : (Know.byt b).ok (u 46) w := dep hd 11 rfl
      rw [d46]
      exact Gv.run (.slice A46 b.length c46) rfl (by go_simp) ⟨_, _, rfl, g46⟩
    exact Obs.nil
  intro u wz hS hd
  obtain ⟨A5, c5, d5, g5⟩ : (Know.byt b).ok (u 5) wz := hd 13 (by decide)
  rw [d5]
  have d47 : u 47 = .int .i64 0 := hd 12 (by decide)
  rw [d47]
  clear hd d5 d47
  simp only [List.drop_succ_cons, List.drop_zero]
  clear HB KY
  obtain ⟨y3, ey⟩ : ∃ v, v = wz := ⟨_, rfl⟩
  rw [← ey] at g5 hS ⊢
  clear ey
  replace ob := OwnF.keep ob hS
  replace r0 := (r0.keep hS).mono hS.size
  replace q0 := (q0.keep hS).mono hS.size
  replace p0 := (p0.keep hS).mono hS.size
  replace g3 := (g3.keep hS).mono hS.size
  replace hc := hc.trans (hS.mono hc.size)
  clear hS
  have HB := Lib.hid (fun wz (hz : Below y3.heap.size y3 wz) => show wz.cell? ⟨gk, 0, none⟩ = some (.slice A0 key.length c0) ∧ wz.cell? ⟨gk, 1, none⟩ = some (.slice A1 nonce.length c1) ∧ wz.cell? ⟨gk, 2, none⟩ = some (.int .u32 (ctr : Int)) ∧ wz.cell? ⟨gk, 3, none⟩ = some (.slice A2 b.length c2) from
    ⟨OwnF.cell (OwnF.keep ob hz) (k := 0) (by decide), OwnF.cell (OwnF.keep ob hz) (k := 1) (by decide), OwnF.cell (OwnF.keep ob hz) (k := 2) (by decide), OwnF.cell (OwnF.keep ob hz) (k := 3) (by decide)⟩)
  go_upto_region 7 with fail
  refine wp_region_obs 20 [48, 49, 50, 51, 52, 53, 54, 55, 56, 57, 58, 59, 60, 61, 62, 63, 64, 65, 66, 67] [.val (.int .i64 0), .val (.bool true), .val (.bool true), .byt L, .val (.int .i64 (L.length : Int)), .val (.pointer (some ⟨gk, 3, none⟩)), .byt b, .val (.int .i64 (b.length : Int)), .val (.bool true), .val (.bool true), .val (.bool true), .byt b, .val (.string ⟨b.toArray⟩), .val (.pointer (some ⟨gk, 3, none⟩)), .byt b, .val (.string ⟨b.toArray⟩), .val (.bool true), .val (.bool true), .val (.bool true), .val (.bool true)] (fun wz => Below y3.heap.size y3 wz) (by kernel_rfl) (fun wz wz' hz hb => hz.trans (hb.mono hz.size)) (Below.refl _ _) (fun u => by simp only [puts, List.foldl_cons, List.foldl_nil]; go_simp; exact rfl) ?_ ?_
  · simp only [List.take_succ_cons, List.take_zero]
    refine ObsS.cons (fun u w hS hd => ?_) ?_
    · exact Gv.run (.int .i64 0) rfl (by go_simp) rfl
    refine ObsS.cons (fun u w hS hd => ?_) ?_
    · have d48 : u 48 = .int .i64 0 := hd 0 (by decide)
      rw [d48]
      exact Gv.run (.bool true) rfl (by go_simp) rfl
    refine ObsS.cons (fun u w hS hd => ?_) ?_
    · have d49 : u 49 = .bool true := hd 1 (by decide)
      rw [d49]
      exact Gv.run (.bool true) rfl (by go_simp) rfl
    refine ObsS.cons (fun u w hS hd => ?_) ?_
    · have d50 : u 50 = .bool true := hd 2 (by decide)
      rw [d50]
      exact Gv.run (.slice A3 L.length c3) rfl (by go_simp) (⟨_, _, rfl, (g3.keep hS).mono hS.size⟩)
    refine ObsS.cons (fun u w hS hd => ?_) ?_
    · have d50 : u 50 = .bool true := hd 2 (by decide)
      rw [d50]
      obtain ⟨A51, c51, d51, g51⟩ : (Know.byt L).ok (u 51) w := hd 3 (by decide)
      rw [d51]
      exact Gv.run (.int .i64 (L.length : Int)) (by rfl) (by go_simp) rfl
    refine ObsS.cons (fun u w hS hd => ?_) ?_
    · have d50 : u 50 = .bool true := hd 2 (by decide)
      rw [d50]
      exact Gv.run (.pointer (some ⟨gk, 3, none⟩)) (by rfl) (by go_simp) rfl
    refine ObsS.cons (fun u w hS hd => ?_) ?_
    · have d50 : u 50 = .bool true := hd 2 (by decide)
      rw [d50]
      have d53 : u 53 = .pointer (some ⟨gk, 3, none⟩) := hd 5 (by decide)
      rw [d53]
      obtain ⟨k0, k1, k2, k3⟩ := HB.out w hS
      exact Gv.run (.slice A2 b.length c2) (by rfl) (by go_simp) ⟨_, _, rfl, (p0.keep hS).mono hS.size⟩
    refine ObsS.cons (fun u w hS hd => ?_) ?_
    · have d50 : u 50 = .bool true := hd 2 (by decide)
      rw [d50]
      obtain ⟨A54, c54, d54, g54⟩ : (Know.byt b).ok (u 54) w := hd 6 (by decide)
      rw [d54]
      exact Gv.run (.int .i64 (b.length : Int)) (by rfl) (by go_simp) rfl
    refine ObsS.cons (fun u w hS hd => ?_) ?_
    · have d50 : u 50 = .bool true := hd 2 (by decide)
      rw [d50]
      have d52 : u 52 = .int .i64 (L.length : Int) := hd 4 (by decide)
      rw [d52]
      have d55 : u 55 = .int .i64 (b.length : Int) := hd 7 (by decide)
      rw [d55]
      have hq := HQ.out
      exact Gv.run (.bool true) (by rfl) (by go_simp) rfl
    refine ObsS.cons (fun u w hS hd => ?_) ?_
    · have d50 : u 50 = .bool true := hd 2 (by decide)
      rw [d50]
      have d56 : u 56 = .bool true := hd 8 (by decide)
      rw [d56]
      exact Gv.run (.bool true) rfl (by go_simp) rfl
    refine ObsS.cons (fun u w hS hd => ?_) ?_
    · have d57 : u 57 = .bool true := hd 9 (by decide)
      rw [d57]
      exact Gv.run (.bool true) rfl (by go_simp) rfl
    refine ObsS.cons (fun u w hS hd => ?_) ?_
    · have d58 : u 58 = .bool true := hd 10 (by decide)
      rw [d58]
      exact Gv.run (.slice A5 b.length c5) rfl (by go_simp) (⟨_, _, rfl, (g5.keep hS).mono hS.size⟩)
    refine ObsS.cons (fun u w hS hd => ?_) ?_
    · have d58 : u 58 = .bool true := hd 10 (by decide)
      rw [d58]
      obtain ⟨A59, c59, d59, g59⟩ : (Know.byt b).ok (u 59) w := hd 11 (by decide)
      rw [d59]
      exact Gv.run (.string ⟨b.toArray⟩) rfl (run_conv rfl rfl (run_str w 29 5 Try.underlying29 Try.underlying5 (dst := 9) Try.underlying9 g59)) rfl
    refine ObsS.cons (fun u w hS hd => ?_) ?_
    · have d58 : u 58 = .bool true := hd 10 (by decide)
      rw [d58]
      exact Gv.run (.pointer (some ⟨gk, 3, none⟩)) (by rfl) (by go_simp) rfl
    refine ObsS.cons (fun u w hS hd => ?_) ?_
    · have d58 : u 58 = .bool true := hd 10 (by decide)
      rw [d58]
      have d61 : u 61 = .pointer (some ⟨gk, 3, none⟩) := hd 13 (by decide)
      rw [d61]
      obtain ⟨k0, k1, k2, k3⟩ := HB.out w hS
      exact Gv.run (.slice A2 b.length c2) (by rfl) (by go_simp) ⟨_, _, rfl, (p0.keep hS).mono hS.size⟩
    refine ObsS.cons (fun u w hS hd => ?_) ?_
    · have d58 : u 58 = .bool true := hd 10 (by decide)
      rw [d58]
      obtain ⟨A62, c62, d62, g62⟩ : (Know.byt b).ok (u 62) w := hd 14 (by decide)
      rw [d62]
      exact Gv.run (.string ⟨b.toArray⟩) rfl (run_conv rfl rfl (run_str w 29 5 Try.underlying29 Try.underlying5 (dst := 9) Try.underlying9 g62)) rfl
    refine ObsS.cons (fun u w hS hd => ?_) ?_
    · have d58 : u 58 = .bool true := hd 10 (by decide)
      rw [d58]
      have d60 : u 60 = .string ⟨b.toArray⟩ := hd 12 (by decide)
      rw [d60]
      have d63 : u 63 = .string ⟨b.toArray⟩ := hd 15 (by decide)
      rw [d63]
      exact Gv.run (.bool true) rfl (by go_simp) rfl
    refine ObsS.cons (fun u w hS hd => ?_) ?_
    · have d58 : u 58 = .bool true := hd 10 (by decide)
      rw [d58]
      have d64 : u 64 = .bool true := hd 16 (by decide)
      rw [d64]
      exact Gv.run (.bool true) rfl (by go_simp) rfl
    refine ObsS.cons (fun u w hS hd => ?_) ?_
    · have d65 : u 65 = .bool true := hd 17 (by decide)
      rw [d65]
      exact Gv.run (.bool true) rfl (by go_simp) rfl
    refine ObsS.cons (fun u w hS hd => ?_) ?_
    · have d66 : u 66 = .bool true := hd 18 (by decide)
      rw [d66]
      refine Gv.call 10 #[] rfl (by go_simp) ((awake10 w).mono ?_)
      rintro e w' ⟨rfl, hb⟩
      exact ⟨_, rfl, rfl, hb⟩
    exact ObsS.nil
  intro u wz hS hd
  have d66 : u 66 = .bool true := hd 18 (by decide)
  rw [d66]
  have d67 : u 67 = .bool true := hd 19 (by decide)
  rw [d67]
  clear hd d66 d67
  simp only [List.drop_succ_cons, List.drop_zero]
  have hfin := hc.trans (hS.mono hc.size)
  go_wp2_with fail
  go_ret
  exact ⟨rfl, hfin⟩
end Go.Proofs.Ythbogplajbldaaa
