/-
  Layer 10's laws: StreamXors. Written by tools/gen_y16.py. By an AI agent.
-/
import Derived.Test.YthbogplajbldaaaY15
import Derived.Test.YthbogplajbldaaaSeq
import Derived.Test.YthbogplajbldaaaCv
namespace Go.Proofs.Ythbogplajbldaaa
open Go Go.RowKit
set_option maxRecDepth 20000
/-- A slice of bytes and an error. -/
def tupE (S : List UInt8) (er : Nat) (v : Value) (w : World) : Prop := ∃ A c, v = .tuple #[.slice A S.length c, .int .i64 (er : Int)] ∧ Rd w w.heap.size A c S
theorem tupE_keep {S : List UInt8} {er : Nat} (v : Value) (w w' : World) (h : tupE S er v w) (hb : Below w.heap.size w w') : tupE S er v w' := by
  obtain ⟨A, c, e, r⟩ := h
  exact ⟨A, c, e, (r.keep hb).mono hb.size⟩
abbrev sealV (A0 : Option Addr) (n0 c0 : Nat) (A1 : Option Addr) (n1 c1 : Nat) (ctr : Nat) (A2 : Option Addr) (n2 c2 : Nat) : Array Value := #[.slice A0 n0 c0, .slice A1 n1 c1, .int .u32 (ctr : Int), .slice A2 n2 c2]
def sealF (A0 : Option Addr) (n0 c0 : Nat) (A1 : Option Addr) (n1 c1 : Nat) (ctr : Nat) (A2 : Option Addr) (n2 c2 : Nat) (k : Nat) : Value := ([.slice A0 n0 c0, .slice A1 n1 c1, .int .u32 (ctr : Int), .slice A2 n2 c2] : List Value).getD k undef
theorem xors_much {A0 A1 A2 : Option Addr} {n0 n1 n2 c0 c1 c2 ctr : Nat} (hn : 4000 < n2) (w : World) : Calls Try.prog 5 #[.agg (sealV A0 n0 c0 A1 n1 c1 ctr A2 n2 c2)] w fun e w' => e = .returned (.bool true) ∧ Below w.heap.size w w' := by
  have hc := (Below.refl w.heap.size w).alloc (Nat.le_refl _) (.cells (sealV A0 n0 c0 A1 n1 c1 ctr A2 n2 c2) 37)
  have HC := Lib.hid hc
  have g1 : (4000 : Int) < (n2 : Int) := by omega
  clear hc
  go_enter Try.func5, Try.ntmps5
  go_wp2_with fail
  go_at_call 10
  refine (awake10 _).mono ?_
  rintro e v1 ⟨rfl, hc⟩
  have hfin := HC.out.trans (hc.mono HC.out.size)
  go_wp2_with fail
  go_ret
  exact ⟨rfl, hfin⟩
set_option maxHeartbeats 6400000 in
theorem xors_law {A0 A1 A2 : Option Addr} {c0 c1 c2 ctr er : Nat} {key nonce b L : List UInt8} (hl : key.length ≤ 140737488355328) (hm : nonce.length ≤ 140737488355328) (hb : b.length ≤ 4000)
    (kg : ∀ (A B C : Option Addr) (c d e0 : Nat) (w : World), Rd w w.heap.size A c key → Rd w w.heap.size B d nonce → Rd w w.heap.size C e0 b → Calls Try.prog 14 #[.slice A key.length c, .slice B nonce.length d, .int .u32 (ctr : Int), .slice C b.length e0] w fun e w' => ∃ A2 c2, e = .returned (.tuple #[.slice A2 L.length c2, .int .i64 (er : Int)]) ∧ Rd w' w'.heap.size A2 c2 L ∧ Below w.heap.size w w')
    (kr : ∀ (A B C : Option Addr) (c d e0 : Nat) (w : World), Rd w w.heap.size A c key → Rd w w.heap.size B d nonce → Rd w w.heap.size C e0 b → Calls Try.prog 15 #[.slice A key.length c, .slice B nonce.length d, .int .u32 (ctr : Int), .slice C b.length e0] w fun e w' => ∃ A2 c2, e = .returned (.tuple #[.slice A2 L.length c2, .int .i64 (er : Int)]) ∧ Rd w' w'.heap.size A2 c2 L ∧ Below w.heap.size w w')
    (w : World) (r0 : Rd w w.heap.size A0 c0 key) (q0 : Rd w w.heap.size A1 c1 nonce) (p0 : Rd w w.heap.size A2 c2 b) : Calls Try.prog 5 #[.agg (sealV A0 key.length c0 A1 nonce.length c1 ctr A2 b.length c2)] w fun e w' => e = .returned (.bool true) ∧ Below w.heap.size w w' := by
  have KG := Lib.hid kg
  have KR := Lib.hid kr
  clear kg kr
  have HL := Lib.hid hl
  have HM := Lib.hid hm
  have HN := Lib.hid (show b.length ≤ 140737488355328 by omega)
  have gb : ¬ (4000 : Int) < (b.length : Int) := by omega
  clear hl hm hb
  have ob := OwnF.lit (w := w) (B := w.heap.size) 37 (Nat.le_refl _) (sealV A0 key.length c0 A1 nonce.length c1 ctr A2 b.length c2) 4 (sealF A0 key.length c0 A1 nonce.length c1 ctr A2 b.length c2) (by decide) (by rfl)
  have hc := (Below.refl w.heap.size w).alloc (Nat.le_refl _) (.cells (sealV A0 key.length c0 A1 nonce.length c1 ctr A2 b.length c2) 37)
  go_enter Try.func5, Try.ntmps5
  go_upto_region 1 with fail
  obtain ⟨v1, e1⟩ : ∃ v, v = w.alloc (.cells (sealV A0 key.length c0 A1 nonce.length c1 ctr A2 b.length c2) 37) := ⟨_, rfl⟩
  obtain ⟨gk, eg⟩ : ∃ g, g = w.heap.size := ⟨_, rfl⟩
  rw [← e1] at ob hc ⊢
  replace ob : OwnF v1 w.heap.size 37 (some ⟨gk, 0, none⟩) 4 4 (sealF A0 key.length c0 A1 nonce.length c1 ctr A2 b.length c2) := by rw [eg]; exact ob
  rw [show Value.pointer (some ⟨w.heap.size, 0, none⟩) = .pointer (some ⟨gk, 0, none⟩) by rw [eg]]
  clear e1 eg
  replace r0 := (r0.keep hc).mono hc.size
  replace q0 := (q0.keep hc).mono hc.size
  replace p0 := (p0.keep hc).mono hc.size
  have k0 : v1.cell? ⟨gk, 0, none⟩ = some (.slice A0 key.length c0) := OwnF.cell ob (k := 0) (by decide)
  have k1 : v1.cell? ⟨gk, 1, none⟩ = some (.slice A1 nonce.length c1) := OwnF.cell ob (k := 1) (by decide)
  have k2 : v1.cell? ⟨gk, 2, none⟩ = some (.int .u32 (ctr : Int)) := OwnF.cell ob (k := 2) (by decide)
  have k3 : v1.cell? ⟨gk, 3, none⟩ = some (.slice A2 b.length c2) := OwnF.cell ob (k := 3) (by decide)
  go_wp2_with fail
  go_at_call 11
  refine (own10_rd b _ _ _ HN.out p0).mono ?_
  rintro e y1 ⟨B1, d1, rfl, p1, h0⟩
  clear gb k0 k1 k2 k3
  replace ob := OwnF.keep ob h0
  replace r0 := (r0.keep h0).mono h0.size
  replace q0 := (q0.keep h0).mono h0.size
  replace p0 := (p0.keep h0).mono h0.size
  replace hc := hc.trans (h0.mono hc.size)
  clear h0
  have HB := Lib.hid (fun wz (hz : Below y1.heap.size y1 wz) => show wz.cell? ⟨gk, 0, none⟩ = some (.slice A0 key.length c0) ∧ wz.cell? ⟨gk, 1, none⟩ = some (.slice A1 nonce.length c1) ∧ wz.cell? ⟨gk, 2, none⟩ = some (.int .u32 (ctr : Int)) ∧ wz.cell? ⟨gk, 3, none⟩ = some (.slice A2 b.length c2) from
    ⟨OwnF.cell (OwnF.keep ob hz) (k := 0) (by decide), OwnF.cell (OwnF.keep ob hz) (k := 1) (by decide), OwnF.cell (OwnF.keep ob hz) (k := 2) (by decide), OwnF.cell (OwnF.keep ob hz) (k := 3) (by decide)⟩)
  go_upto_region 4 with fail
  refine wp_region_inv 14 [17, 18, 19, 20, 21, 22, 23, 24, 25, 26, 16, 27, 28, 4] [.val (.pointer (some ⟨gk, 0, none⟩)), .byt key, .byt key, .val (.pointer (some ⟨gk, 1, none⟩)), .byt nonce, .byt nonce, .val (.pointer (some ⟨gk, 2, none⟩)), .val (.int .u32 (ctr : Int)), .byt b, .sat (tupE L er) tupE_keep, .sat (tupE L er) tupE_keep, .byt L, .val (.int .i64 (er : Int)), .byt L] (fun wz => Below y1.heap.size y1 wz) (by kernel_rfl) (by kernel_rfl) (fun wz wz' hz hb => hz.trans (hb.mono hz.size)) ((Below.refl _ _).drew) (fun u => by simp only [puts, List.foldl_cons, List.foldl_nil]; go_simp; exact rfl) ?_ ?_
  · simp only [List.take_succ_cons, List.take_zero]
    refine Obs.cons (fun u w hS hd => ?_) ?_
    · exact Gv.run (.pointer (some ⟨gk, 0, none⟩)) rfl (by go_simp) rfl
    refine Obs.cons (fun u w hS hd => ?_) ?_
    · have d17 : u 17 = .pointer (some ⟨gk, 0, none⟩) := dep hd 0 rfl
      rw [d17]
      obtain ⟨k0, k1, k2, k3⟩ := HB.out w hS
      exact Gv.run (.slice A0 key.length c0) rfl (by go_simp) ⟨_, _, rfl, (r0.keep hS).mono hS.size⟩
    refine Obs.cons (fun u w hS hd => ?_) ?_
    · obtain ⟨A18, c18, d18, g18⟩ : (Know.byt key).ok (u 18) w := dep hd 1 rfl
      rw [d18]
      refine Gv.call 11 #[.slice A18 key.length c18] rfl (by go_simp) ((own10_rd key _ _ w HL.out g18).mono ?_)
      rintro e w' ⟨A, c, rfl, R, hb⟩
      exact ⟨_, rfl, ⟨A, c, rfl, R⟩, hb⟩
    refine Obs.cons (fun u w hS hd => ?_) ?_
    · exact Gv.run (.pointer (some ⟨gk, 1, none⟩)) rfl (by go_simp) rfl
    refine Obs.cons (fun u w hS hd => ?_) ?_
    · have d20 : u 20 = .pointer (some ⟨gk, 1, none⟩) := dep hd 3 rfl
      rw [d20]
      obtain ⟨k0, k1, k2, k3⟩ := HB.out w hS
      exact Gv.run (.slice A1 nonce.length c1) rfl (by go_simp) ⟨_, _, rfl, (q0.keep hS).mono hS.size⟩
    refine Obs.cons (fun u w hS hd => ?_) ?_
    · obtain ⟨A21, c21, d21, g21⟩ : (Know.byt nonce).ok (u 21) w := dep hd 4 rfl
      rw [d21]
      refine Gv.call 11 #[.slice A21 nonce.length c21] rfl (by go_simp) ((own10_rd nonce _ _ w HM.out g21).mono ?_)
      rintro e w' ⟨A, c, rfl, R, hb⟩
      exact ⟨_, rfl, ⟨A, c, rfl, R⟩, hb⟩
    refine Obs.cons (fun u w hS hd => ?_) ?_
    · exact Gv.run (.pointer (some ⟨gk, 2, none⟩)) rfl (by go_simp) rfl
    refine Obs.cons (fun u w hS hd => ?_) ?_
    · have d23 : u 23 = .pointer (some ⟨gk, 2, none⟩) := dep hd 6 rfl
      rw [d23]
      obtain ⟨k0, k1, k2, k3⟩ := HB.out w hS
      exact Gv.run (.int .u32 (ctr : Int)) rfl (by go_simp) rfl
    refine Obs.cons (fun u w hS hd => ?_) ?_
    · exact Gv.run (.slice B1 b.length d1) rfl (by go_simp) (⟨_, _, rfl, (p1.keep hS).mono hS.size⟩)
    refine Obs.cons (fun u w hS hd => ?_) ?_
    · obtain ⟨A19, c19, d19, g19⟩ : (Know.byt key).ok (u 19) w := dep hd 2 rfl
      rw [d19]
      obtain ⟨A22, c22, d22, g22⟩ : (Know.byt nonce).ok (u 22) w := dep hd 5 rfl
      rw [d22]
      have d24 : u 24 = .int .u32 (ctr : Int) := dep hd 7 rfl
      rw [d24]
      obtain ⟨A25, c25, d25, g25⟩ : (Know.byt b).ok (u 25) w := dep hd 8 rfl
      rw [d25]
      refine Gv.call 14 #[.slice A19 key.length c19, .slice A22 nonce.length c22, .int .u32 (ctr : Int), .slice A25 b.length c25] rfl (by go_simp) ((KG.out _ _ _ _ _ _ w g19 g22 g25).mono ?_)
      rintro e w' ⟨A, c, rfl, R, hb⟩
      exact ⟨_, rfl, ⟨A, c, rfl, R⟩, hb⟩
    refine Obs.cons (fun u w hS hd => ?_) ?_
    · obtain ⟨A, c, d26, g26⟩ : (Know.sat (tupE L er) tupE_keep).ok (u 26) w := dep hd 9 rfl
      rw [d26]
      exact Gv.run (.tuple #[.slice A L.length c, .int .i64 (er : Int)]) rfl (by go_simp) ⟨_, _, rfl, g26⟩
    refine Obs.cons (fun u w hS hd => ?_) ?_
    · obtain ⟨A, c, d16, g16⟩ : (Know.sat (tupE L er) tupE_keep).ok (u 16) w := dep hd 10 rfl
      rw [d16]
      exact Gv.run (.slice A L.length c) rfl (by go_simp) ⟨_, _, rfl, g16⟩
    refine Obs.cons (fun u w hS hd => ?_) ?_
    · obtain ⟨A, c, d16, g16⟩ : (Know.sat (tupE L er) tupE_keep).ok (u 16) w := dep hd 10 rfl
      rw [d16]
      exact Gv.run (.int .i64 (er : Int)) rfl (by go_simp) rfl
    refine Obs.cons (fun u w hS hd => ?_) ?_
    · obtain ⟨A27, c27, d27, g27⟩ : (Know.byt L).ok (u 27) w := dep hd 11 rfl
      rw [d27]
      exact Gv.run (.slice A27 L.length c27) rfl (by go_simp) ⟨_, _, rfl, g27⟩
    exact Obs.nil
  intro u wz hS hd
  obtain ⟨A4, c4, d4, g4⟩ : (Know.byt L).ok (u 4) wz := hd 13 (by decide)
  rw [d4]
  have d28 : u 28 = .int .i64 (er : Int) := hd 12 (by decide)
  rw [d28]
  clear hd d4 d28
  simp only [List.drop_succ_cons, List.drop_zero]
  clear HB KG
  obtain ⟨y2, ey⟩ : ∃ v, v = wz := ⟨_, rfl⟩
  rw [← ey] at g4 hS ⊢
  clear ey
  replace ob := OwnF.keep ob hS
  replace r0 := (r0.keep hS).mono hS.size
  replace q0 := (q0.keep hS).mono hS.size
  replace p0 := (p0.keep hS).mono hS.size
  replace p1 := (p1.keep hS).mono hS.size
  replace hc := hc.trans (hS.mono hc.size)
  clear hS
  have k0 : y2.cell? ⟨gk, 0, none⟩ = some (.slice A0 key.length c0) := OwnF.cell ob (k := 0) (by decide)
  have k1 : y2.cell? ⟨gk, 1, none⟩ = some (.slice A1 nonce.length c1) := OwnF.cell ob (k := 1) (by decide)
  have k2 : y2.cell? ⟨gk, 2, none⟩ = some (.int .u32 (ctr : Int)) := OwnF.cell ob (k := 2) (by decide)
  have k3 : y2.cell? ⟨gk, 3, none⟩ = some (.slice A2 b.length c2) := OwnF.cell ob (k := 3) (by decide)
  go_wp2_with fail
  go_at_call 15
  refine (KR.out _ _ _ _ _ _ _ r0 q0 p0).mono ?_
  rintro e y3 ⟨B6, d6, rfl, g6, h0⟩
  clear k0 k1 k2 k3 KR
  replace ob := OwnF.keep ob h0
  replace r0 := (r0.keep h0).mono h0.size
  replace q0 := (q0.keep h0).mono h0.size
  replace p0 := (p0.keep h0).mono h0.size
  replace p1 := (p1.keep h0).mono h0.size
  replace g4 := (g4.keep h0).mono h0.size
  replace hc := hc.trans (h0.mono hc.size)
  clear h0
  have HB := Lib.hid (fun wz (hz : Below y3.heap.size y3 wz) => show wz.cell? ⟨gk, 0, none⟩ = some (.slice A0 key.length c0) ∧ wz.cell? ⟨gk, 1, none⟩ = some (.slice A1 nonce.length c1) ∧ wz.cell? ⟨gk, 2, none⟩ = some (.int .u32 (ctr : Int)) ∧ wz.cell? ⟨gk, 3, none⟩ = some (.slice A2 b.length c2) from
    ⟨OwnF.cell (OwnF.keep ob hz) (k := 0) (by decide), OwnF.cell (OwnF.keep ob hz) (k := 1) (by decide), OwnF.cell (OwnF.keep ob hz) (k := 2) (by decide), OwnF.cell (OwnF.keep ob hz) (k := 3) (by decide)⟩)
  go_upto_region 6 with fail
  refine wp_region_obs 20 [41, 42, 43, 44, 45, 46, 47, 48, 49, 50, 51, 52, 53, 54, 55, 56, 57, 58, 59, 60] [.byt L, .val (.string ⟨L.toArray⟩), .byt L, .val (.string ⟨L.toArray⟩), .val (.bool true), .val (.bool true), .val (.int .i64 (er : Int)), .val (.int .i64 (er : Int)), .val (.bool true), .val (.bool true), .val (.bool true), .byt b, .val (.string ⟨b.toArray⟩), .val (.pointer (some ⟨gk, 3, none⟩)), .byt b, .val (.string ⟨b.toArray⟩), .val (.bool true), .val (.bool true), .val (.bool true), .val (.bool true)] (fun wz => Below y3.heap.size y3 wz) (by kernel_rfl) (fun wz wz' hz hb => hz.trans (hb.mono hz.size)) (Below.refl _ _) (fun u => by simp only [puts, List.foldl_cons, List.foldl_nil]; go_simp; exact rfl) ?_ ?_
  · simp only [List.take_succ_cons, List.take_zero]
    refine ObsS.cons (fun u w hS hd => ?_) ?_
    · exact Gv.run (.slice A4 L.length c4) rfl (by go_simp) (⟨_, _, rfl, (g4.keep hS).mono hS.size⟩)
    refine ObsS.cons (fun u w hS hd => ?_) ?_
    · obtain ⟨A41, c41, d41, g41⟩ : (Know.byt L).ok (u 41) w := hd 0 (by decide)
      rw [d41]
      exact Gv.run (.string ⟨L.toArray⟩) rfl (run_conv rfl rfl (run_str w 29 5 Try.underlying29 Try.underlying5 (dst := 9) Try.underlying9 g41)) rfl
    refine ObsS.cons (fun u w hS hd => ?_) ?_
    · exact Gv.run (.slice B6 L.length d6) rfl (by go_simp) (⟨_, _, rfl, (g6.keep hS).mono hS.size⟩)
    refine ObsS.cons (fun u w hS hd => ?_) ?_
    · obtain ⟨A43, c43, d43, g43⟩ : (Know.byt L).ok (u 43) w := hd 2 (by decide)
      rw [d43]
      exact Gv.run (.string ⟨L.toArray⟩) rfl (run_conv rfl rfl (run_str w 29 5 Try.underlying29 Try.underlying5 (dst := 9) Try.underlying9 g43)) rfl
    refine ObsS.cons (fun u w hS hd => ?_) ?_
    · have d42 : u 42 = .string ⟨L.toArray⟩ := hd 1 (by decide)
      rw [d42]
      have d44 : u 44 = .string ⟨L.toArray⟩ := hd 3 (by decide)
      rw [d44]
      exact Gv.run (.bool true) rfl (by go_simp) rfl
    refine ObsS.cons (fun u w hS hd => ?_) ?_
    · have d45 : u 45 = .bool true := hd 4 (by decide)
      rw [d45]
      exact Gv.run (.bool true) rfl (by go_simp) rfl
    refine ObsS.cons (fun u w hS hd => ?_) ?_
    · have d46 : u 46 = .bool true := hd 5 (by decide)
      rw [d46]
      exact Gv.run (.int .i64 (er : Int)) rfl (by go_simp) rfl
    refine ObsS.cons (fun u w hS hd => ?_) ?_
    · have d46 : u 46 = .bool true := hd 5 (by decide)
      rw [d46]
      exact Gv.run (.int .i64 (er : Int)) rfl (by go_simp) rfl
    refine ObsS.cons (fun u w hS hd => ?_) ?_
    · have d46 : u 46 = .bool true := hd 5 (by decide)
      rw [d46]
      have d47 : u 47 = .int .i64 (er : Int) := hd 6 (by decide)
      rw [d47]
      have d48 : u 48 = .int .i64 (er : Int) := hd 7 (by decide)
      rw [d48]
      exact Gv.run (.bool true) rfl (by go_simp) rfl
    refine ObsS.cons (fun u w hS hd => ?_) ?_
    · have d46 : u 46 = .bool true := hd 5 (by decide)
      rw [d46]
      have d49 : u 49 = .bool true := hd 8 (by decide)
      rw [d49]
      exact Gv.run (.bool true) rfl (by go_simp) rfl
    refine ObsS.cons (fun u w hS hd => ?_) ?_
    · have d50 : u 50 = .bool true := hd 9 (by decide)
      rw [d50]
      exact Gv.run (.bool true) rfl (by go_simp) rfl
    refine ObsS.cons (fun u w hS hd => ?_) ?_
    · have d51 : u 51 = .bool true := hd 10 (by decide)
      rw [d51]
      exact Gv.run (.slice B1 b.length d1) rfl (by go_simp) (⟨_, _, rfl, (p1.keep hS).mono hS.size⟩)
    refine ObsS.cons (fun u w hS hd => ?_) ?_
    · have d51 : u 51 = .bool true := hd 10 (by decide)
      rw [d51]
      obtain ⟨A52, c52, d52, g52⟩ : (Know.byt b).ok (u 52) w := hd 11 (by decide)
      rw [d52]
      exact Gv.run (.string ⟨b.toArray⟩) rfl (run_conv rfl rfl (run_str w 29 5 Try.underlying29 Try.underlying5 (dst := 9) Try.underlying9 g52)) rfl
    refine ObsS.cons (fun u w hS hd => ?_) ?_
    · have d51 : u 51 = .bool true := hd 10 (by decide)
      rw [d51]
      exact Gv.run (.pointer (some ⟨gk, 3, none⟩)) (by rfl) (by go_simp) rfl
    refine ObsS.cons (fun u w hS hd => ?_) ?_
    · have d51 : u 51 = .bool true := hd 10 (by decide)
      rw [d51]
      have d54 : u 54 = .pointer (some ⟨gk, 3, none⟩) := hd 13 (by decide)
      rw [d54]
      obtain ⟨k0, k1, k2, k3⟩ := HB.out w hS
      exact Gv.run (.slice A2 b.length c2) (by rfl) (by go_simp) ⟨_, _, rfl, (p0.keep hS).mono hS.size⟩
    refine ObsS.cons (fun u w hS hd => ?_) ?_
    · have d51 : u 51 = .bool true := hd 10 (by decide)
      rw [d51]
      obtain ⟨A55, c55, d55, g55⟩ : (Know.byt b).ok (u 55) w := hd 14 (by decide)
      rw [d55]
      exact Gv.run (.string ⟨b.toArray⟩) rfl (run_conv rfl rfl (run_str w 29 5 Try.underlying29 Try.underlying5 (dst := 9) Try.underlying9 g55)) rfl
    refine ObsS.cons (fun u w hS hd => ?_) ?_
    · have d51 : u 51 = .bool true := hd 10 (by decide)
      rw [d51]
      have d53 : u 53 = .string ⟨b.toArray⟩ := hd 12 (by decide)
      rw [d53]
      have d56 : u 56 = .string ⟨b.toArray⟩ := hd 15 (by decide)
      rw [d56]
      exact Gv.run (.bool true) rfl (by go_simp) rfl
    refine ObsS.cons (fun u w hS hd => ?_) ?_
    · have d51 : u 51 = .bool true := hd 10 (by decide)
      rw [d51]
      have d57 : u 57 = .bool true := hd 16 (by decide)
      rw [d57]
      exact Gv.run (.bool true) rfl (by go_simp) rfl
    refine ObsS.cons (fun u w hS hd => ?_) ?_
    · have d58 : u 58 = .bool true := hd 17 (by decide)
      rw [d58]
      exact Gv.run (.bool true) rfl (by go_simp) rfl
    refine ObsS.cons (fun u w hS hd => ?_) ?_
    · have d59 : u 59 = .bool true := hd 18 (by decide)
      rw [d59]
      refine Gv.call 10 #[] rfl (by go_simp) ((awake10 w).mono ?_)
      rintro e w' ⟨rfl, hb⟩
      exact ⟨_, rfl, rfl, hb⟩
    exact ObsS.nil
  intro u wz hS hd
  have d59 : u 59 = .bool true := hd 18 (by decide)
  rw [d59]
  have d60 : u 60 = .bool true := hd 19 (by decide)
  rw [d60]
  clear hd d59 d60
  simp only [List.drop_succ_cons, List.drop_zero]
  have hfin := hc.trans (hS.mono hc.size)
  go_wp2_with fail
  go_ret
  exact ⟨rfl, hfin⟩
end Go.Proofs.Ythbogplajbldaaa
