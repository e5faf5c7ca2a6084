/-
  Layer 13's law WirePuts over contracts. Written by tools/gen_wc4.py. By an AI agent.
-/
import Derived.Test.YtonfdnihllhcbaaWc1
namespace Go.Proofs.Ytonfdnihllhcbaa
open Go Go.RowKit
set_option maxRecDepth 20000
section
variable {R : RdrP} (K : WireC R)
include K
set_option maxHeartbeats 6400000 in
theorem wireputs_law {A0 A1 : Option Addr} {c0 c1 : Nat} {b s : List UInt8} {n : Int} (hl : b.length + s.length ≤ 140737488355320) (w : World) (r0 : Rd w w.heap.size A0 c0 b) (r1 : Rd w w.heap.size A1 c1 s) :
    Calls Try.prog 3 #[.slice A0 b.length c0, .slice A1 s.length c1, .int .i64 n] w fun e w' => e = .returned (.bool true) ∧ Below w.heap.size w w' := by
  obtain ⟨y, ey⟩ : ∃ y, y = decide ((5 : Int) < n) := ⟨_, rfl⟩
  obtain ⟨N, eN⟩ : ∃ N, N = numL b n := ⟨_, rfl⟩
  obtain ⟨T, eT⟩ : ∃ T, T = textL b s := ⟨_, rfl⟩
  obtain ⟨G, eG⟩ : ∃ G, G = flagL b y := ⟨_, rfl⟩
  have k1 : ∀ (A : Option Addr) (c : Nat) (w : World), Rd w w.heap.size A c b → Calls Try.prog 10 #[.slice A b.length c, .int .i64 n] w fun e w' => ∃ A' c', e = .returned (.slice A' N.length c') ∧ Rd w' w'.heap.size A' c' N ∧ Below w.heap.size w w' := fun A c w r => by rw [eN]; exact (K.puts n w r (by omega)).mono fun _ _ ⟨A', c', he, o, hb⟩ => ⟨A', c', he, o.rd, hb⟩
  have k2 : ∀ (A : Option Addr) (c : Nat) (w : World), Rd w w.heap.size A c b → Calls Try.prog 11 #[.slice A b.length c, .int .i64 n] w fun e w' => ∃ A' c', e = .returned (.slice A' N.length c') ∧ Rd w' w'.heap.size A' c' N ∧ Below w.heap.size w w' := fun A c w r => by rw [eN]; exact (rnum_any n w r (Nat.le_refl _) (by omega)).mono fun _ _ ⟨A', c', he, o, hb⟩ => ⟨A', c', he, o.rd, hb⟩
  have k3 : ∀ (A : Option Addr) (c : Nat) (w : World), Rd w w.heap.size A c b → Calls Try.prog 14 #[.slice A b.length c, .bool y] w fun e w' => ∃ A' c', e = .returned (.slice A' G.length c') ∧ Rd w' w'.heap.size A' c' G ∧ Below w.heap.size w w' := fun A c w r => by rw [eG]; exact (K.flags y w r (by omega)).mono fun _ _ ⟨A', c', he, o, hb⟩ => ⟨A', c', he, o.rd, hb⟩
  have k4 : ∀ (A : Option Addr) (c : Nat) (w : World), Rd w w.heap.size A c b → Calls Try.prog 15 #[.slice A b.length c, .bool y] w fun e w' => ∃ A' c', e = .returned (.slice A' G.length c') ∧ Rd w' w'.heap.size A' c' G ∧ Below w.heap.size w w' := fun A c w r => by rw [eG]; exact (rflag_any y w r (Nat.le_refl _) (by omega)).mono fun _ _ ⟨A', c', he, o, hb⟩ => ⟨A', c', he, o.rd, hb⟩
  have k5 : ∀ (A : Option Addr) (c : Nat) (A2 : Option Addr) (c2 : Nat) (w : World), Rd w w.heap.size A c b → Rd w w.heap.size A2 c2 s → Calls Try.prog 12 #[.slice A b.length c, .slice A2 s.length c2] w fun e w' => ∃ A' c', e = .returned (.slice A' T.length c') ∧ Rd w' w'.heap.size A' c' T ∧ Below w.heap.size w w' := fun A c A2 c2 w r r' => by rw [eT]; exact (K.texts w r r' hl).mono fun _ _ ⟨A', c', he, o, hb⟩ => ⟨A', c', he, o.rd, hb⟩
  have k6 : ∀ (A : Option Addr) (c : Nat) (A2 : Option Addr) (c2 : Nat) (w : World), Rd w w.heap.size A c b → Rd w w.heap.size A2 c2 s → Calls Try.prog 13 #[.slice A b.length c, .slice A2 s.length c2] w fun e w' => ∃ A' c', e = .returned (.slice A' T.length c') ∧ Rd w' w'.heap.size A' c' T ∧ Below w.heap.size w w' := fun A c A2 c2 w r r' => by rw [eT]; exact (rtext_any w r r' (Nat.le_refl _) hl).mono fun _ _ ⟨A', c', he, o, hb⟩ => ⟨A', c', he, o.rd, hb⟩
  have HK := Lib.hid (And.intro k1 (And.intro k2 (And.intro k3 k4)))
  have HT := Lib.hid (And.intro k5 k6)
  have HL := Lib.hid hl
  have HY := Lib.hid ey
  clear k1 k2 k3 k4 k5 k6 eN eT eG ey hl
  go_enter Try.func3, Try.ntmps3
  go_wp2_with fail
  go_at_call 9
  refine (own13_any w r0 (Nat.le_refl _) (by have := HL.out; omega)).mono ?_
  rintro z v1 ⟨Ab, cb, rfl, ob, hc⟩
  replace r0 := (r0.keep hc).mono hc.size
  replace r1 := (r1.keep hc).mono hc.size
  have rb := ob.rd
  clear ob
  go_wp2_with fail
  go_at_call 9
  refine (own13_any v1 r1 (Nat.le_refl _) (by have := HL.out; omega)).mono ?_
  rintro z v2 ⟨As, cs, rfl, os, h0⟩
  replace r0 := (r0.keep h0).mono h0.size
  replace r1 := (r1.keep h0).mono h0.size
  replace rb := (rb.keep h0).mono h0.size
  have rs := os.rd
  replace hc := hc.trans (h0.mono hc.size)
  clear os h0
  go_upto_region 3 with fail
  rw [← HY.out]
  refine wp_region_inv 47 [16, 17, 18, 19, 20, 21, 22, 23, 24, 25, 26, 27, 28, 29, 30, 31, 32, 33, 34, 35, 36, 37, 38, 39, 40, 41, 42, 43, 44, 45, 46, 47, 48, 49, 50, 51, 52, 53, 54, 55, 56, 57, 58, 59, 60, 61, 62] [.byt b, .val (.int .i64 n), .byt N, .val (.string ⟨N.toArray⟩), .byt b, .val (.int .i64 n), .byt N, .val (.string ⟨N.toArray⟩), .val (.bool true), .val (.bool true), .byt b, .byt s, .byt T, .val (.string ⟨T.toArray⟩), .byt b, .byt s, .byt T, .val (.string ⟨T.toArray⟩), .val (.bool true), .val (.bool true), .val (.bool true), .byt b, .val (.bool y), .byt G, .val (.string ⟨G.toArray⟩), .byt b, .val (.bool y), .byt G, .val (.string ⟨G.toArray⟩), .val (.bool true), .val (.bool true), .val (.bool true), .byt b, .val (.string ⟨b.toArray⟩), .byt b, .val (.string ⟨b.toArray⟩), .val (.bool true), .val (.bool true), .val (.bool true), .byt s, .val (.string ⟨s.toArray⟩), .byt s, .val (.string ⟨s.toArray⟩), .val (.bool true), .val (.bool true), .val (.bool true), .val (.bool true)] (fun wz => Below v2.heap.size v2 wz) (by kernel_rfl) (by kernel_rfl) (fun wz wz' hz hb => hz.trans (hb.mono hz.size)) ((Below.refl _ _).drew) (fun u => by simp only [puts, List.foldl_cons, List.foldl_nil]; go_simp; exact rfl) ?_ ?_
  · simp only [List.take_succ_cons, List.take_zero]
    refine Obs.cons (fun u w hS hd => ?_) ?_
    · exact Gv.run (.slice Ab b.length cb) rfl (by go_simp) (⟨_, _, rfl, (rb.keep hS).mono hS.size⟩)
    refine Obs.cons (fun u w hS hd => ?_) ?_
    · exact Gv.run (.int .i64 n) rfl (by go_simp) rfl
    refine Obs.cons (fun u w hS hd => ?_) ?_
    · obtain ⟨A16, c16, d16, g16⟩ : (Know.byt b).ok (u 16) w := dep hd 0 rfl
      rw [d16]
      have d17 : u 17 = .int .i64 n := dep hd 1 rfl
      rw [d17]
      refine Gv.call 10 #[.slice A16 b.length c16, .int .i64 n] rfl (by go_simp) ((HK.out.1 _ _ w g16).mono ?_)
      rintro e w' ⟨A, c, rfl, R, hb⟩
      exact ⟨_, rfl, ⟨A, c, rfl, R⟩, hb⟩
    refine Obs.cons (fun u w hS hd => ?_) ?_
    · obtain ⟨A18, c18, d18, g18⟩ : (Know.byt N).ok (u 18) w := dep hd 2 rfl
      rw [d18]
      exact Gv.run (.string ⟨N.toArray⟩) rfl (run_conv rfl rfl (run_str w 22 5 Try.underlying22 Try.underlying5 (dst := 9) Try.underlying9 g18)) rfl
    refine Obs.cons (fun u w hS hd => ?_) ?_
    · exact Gv.run (.slice A0 b.length c0) rfl (by go_simp) (⟨_, _, rfl, (r0.keep hS).mono hS.size⟩)
    refine Obs.cons (fun u w hS hd => ?_) ?_
    · exact Gv.run (.int .i64 n) rfl (by go_simp) rfl
    refine Obs.cons (fun u w hS hd => ?_) ?_
    · obtain ⟨A20, c20, d20, g20⟩ : (Know.byt b).ok (u 20) w := dep hd 4 rfl
      rw [d20]
      have d21 : u 21 = .int .i64 n := dep hd 5 rfl
      rw [d21]
      refine Gv.call 11 #[.slice A20 b.length c20, .int .i64 n] rfl (by go_simp) ((HK.out.2.1 _ _ w g20).mono ?_)
      rintro e w' ⟨A, c, rfl, R, hb⟩
      exact ⟨_, rfl, ⟨A, c, rfl, R⟩, hb⟩
    refine Obs.cons (fun u w hS hd => ?_) ?_
    · obtain ⟨A22, c22, d22, g22⟩ : (Know.byt N).ok (u 22) w := dep hd 6 rfl
      rw [d22]
      exact Gv.run (.string ⟨N.toArray⟩) rfl (run_conv rfl rfl (run_str w 22 5 Try.underlying22 Try.underlying5 (dst := 9) Try.underlying9 g22)) rfl
    refine Obs.cons (fun u w hS hd => ?_) ?_
    · have d19 : u 19 = .string ⟨N.toArray⟩ := dep hd 3 rfl
      rw [d19]
      have d23 : u 23 = .string ⟨N.toArray⟩ := dep hd 7 rfl
      rw [d23]
      exact Gv.run (.bool true) rfl (by go_simp) rfl
    refine Obs.cons (fun u w hS hd => ?_) ?_
    · have d24 : u 24 = .bool true := dep hd 8 rfl
      rw [d24]
      exact Gv.run (.bool true) rfl (by go_simp) rfl
    refine Obs.cons (fun u w hS hd => ?_) ?_
    · have d25 : u 25 = .bool true := dep hd 9 rfl
      rw [d25]
      exact Gv.run (.slice Ab b.length cb) rfl (by go_simp) (⟨_, _, rfl, (rb.keep hS).mono hS.size⟩)
    refine Obs.cons (fun u w hS hd => ?_) ?_
    · have d25 : u 25 = .bool true := dep hd 9 rfl
      rw [d25]
      exact Gv.run (.slice As s.length cs) rfl (by go_simp) (⟨_, _, rfl, (rs.keep hS).mono hS.size⟩)
    refine Obs.cons (fun u w hS hd => ?_) ?_
    · have d25 : u 25 = .bool true := dep hd 9 rfl
      rw [d25]
      obtain ⟨A26, c26, d26, g26⟩ : (Know.byt b).ok (u 26) w := dep hd 10 rfl
      rw [d26]
      obtain ⟨A27, c27, d27, g27⟩ : (Know.byt s).ok (u 27) w := dep hd 11 rfl
      rw [d27]
      refine Gv.call 12 #[.slice A26 b.length c26, .slice A27 s.length c27] rfl (by go_simp) ((HT.out.1 _ _ _ _ w g26 g27).mono ?_)
      rintro e w' ⟨A, c, rfl, R, hb⟩
      exact ⟨_, rfl, ⟨A, c, rfl, R⟩, hb⟩
    refine Obs.cons (fun u w hS hd => ?_) ?_
    · have d25 : u 25 = .bool true := dep hd 9 rfl
      rw [d25]
      obtain ⟨A28, c28, d28, g28⟩ : (Know.byt T).ok (u 28) w := dep hd 12 rfl
      rw [d28]
      exact Gv.run (.string ⟨T.toArray⟩) rfl (run_conv rfl rfl (run_str w 22 5 Try.underlying22 Try.underlying5 (dst := 9) Try.underlying9 g28)) rfl
    refine Obs.cons (fun u w hS hd => ?_) ?_
    · have d25 : u 25 = .bool true := dep hd 9 rfl
      rw [d25]
      exact Gv.run (.slice A0 b.length c0) rfl (by go_simp) (⟨_, _, rfl, (r0.keep hS).mono hS.size⟩)
    refine Obs.cons (fun u w hS hd => ?_) ?_
    · have d25 : u 25 = .bool true := dep hd 9 rfl
      rw [d25]
      exact Gv.run (.slice A1 s.length c1) rfl (by go_simp) (⟨_, _, rfl, (r1.keep hS).mono hS.size⟩)
    refine Obs.cons (fun u w hS hd => ?_) ?_
    · have d25 : u 25 = .bool true := dep hd 9 rfl
      rw [d25]
      obtain ⟨A30, c30, d30, g30⟩ : (Know.byt b).ok (u 30) w := dep hd 14 rfl
      rw [d30]
      obtain ⟨A31, c31, d31, g31⟩ : (Know.byt s).ok (u 31) w := dep hd 15 rfl
      rw [d31]
      refine Gv.call 13 #[.slice A30 b.length c30, .slice A31 s.length c31] rfl (by go_simp) ((HT.out.2 _ _ _ _ w g30 g31).mono ?_)
      rintro e w' ⟨A, c, rfl, R, hb⟩
      exact ⟨_, rfl, ⟨A, c, rfl, R⟩, hb⟩
    refine Obs.cons (fun u w hS hd => ?_) ?_
    · have d25 : u 25 = .bool true := dep hd 9 rfl
      rw [d25]
      obtain ⟨A32, c32, d32, g32⟩ : (Know.byt T).ok (u 32) w := dep hd 16 rfl
      rw [d32]
      exact Gv.run (.string ⟨T.toArray⟩) rfl (run_conv rfl rfl (run_str w 22 5 Try.underlying22 Try.underlying5 (dst := 9) Try.underlying9 g32)) rfl
    refine Obs.cons (fun u w hS hd => ?_) ?_
    · have d25 : u 25 = .bool true := dep hd 9 rfl
      rw [d25]
      have d29 : u 29 = .string ⟨T.toArray⟩ := dep hd 13 rfl
      rw [d29]
      have d33 : u 33 = .string ⟨T.toArray⟩ := dep hd 17 rfl
      rw [d33]
      exact Gv.run (.bool true) rfl (by go_simp) rfl
    refine Obs.cons (fun u w hS hd => ?_) ?_
    · have d25 : u 25 = .bool true := dep hd 9 rfl
      rw [d25]
      have d34 : u 34 = .bool true := dep hd 18 rfl
      rw [d34]
      exact Gv.run (.bool true) rfl (by go_simp) rfl
    refine Obs.cons (fun u w hS hd => ?_) ?_
    · have d35 : u 35 = .bool true := dep hd 19 rfl
      rw [d35]
      exact Gv.run (.bool true) rfl (by go_simp) rfl
    refine Obs.cons (fun u w hS hd => ?_) ?_
    · have d36 : u 36 = .bool true := dep hd 20 rfl
      rw [d36]
      exact Gv.run (.slice Ab b.length cb) rfl (by go_simp) (⟨_, _, rfl, (rb.keep hS).mono hS.size⟩)
    refine Obs.cons (fun u w hS hd => ?_) ?_
    · have d36 : u 36 = .bool true := dep hd 20 rfl
      rw [d36]
      exact Gv.run (.bool y) rfl (by go_simp) rfl
    refine Obs.cons (fun u w hS hd => ?_) ?_
    · have d36 : u 36 = .bool true := dep hd 20 rfl
      rw [d36]
      obtain ⟨A37, c37, d37, g37⟩ : (Know.byt b).ok (u 37) w := dep hd 21 rfl
      rw [d37]
      have d38 : u 38 = .bool y := dep hd 22 rfl
      rw [d38]
      refine Gv.call 14 #[.slice A37 b.length c37, .bool y] rfl (by go_simp) ((HK.out.2.2.1 _ _ w g37).mono ?_)
      rintro e w' ⟨A, c, rfl, R, hb⟩
      exact ⟨_, rfl, ⟨A, c, rfl, R⟩, hb⟩
    refine Obs.cons (fun u w hS hd => ?_) ?_
    · have d36 : u 36 = .bool true := dep hd 20 rfl
      rw [d36]
      obtain ⟨A39, c39, d39, g39⟩ : (Know.byt G).ok (u 39) w := dep hd 23 rfl
      rw [d39]
      exact Gv.run (.string ⟨G.toArray⟩) rfl (run_conv rfl rfl (run_str w 22 5 Try.underlying22 Try.underlying5 (dst := 9) Try.underlying9 g39)) rfl
    refine Obs.cons (fun u w hS hd => ?_) ?_
    · have d36 : u 36 = .bool true := dep hd 20 rfl
      rw [d36]
      exact Gv.run (.slice A0 b.length c0) rfl (by go_simp) (⟨_, _, rfl, (r0.keep hS).mono hS.size⟩)
    refine Obs.cons (fun u w hS hd => ?_) ?_
    · have d36 : u 36 = .bool true := dep hd 20 rfl
      rw [d36]
      exact Gv.run (.bool y) rfl (by go_simp) rfl
    refine Obs.cons (fun u w hS hd => ?_) ?_
    · have d36 : u 36 = .bool true := dep hd 20 rfl
      rw [d36]
      obtain ⟨A41, c41, d41, g41⟩ : (Know.byt b).ok (u 41) w := dep hd 25 rfl
      rw [d41]
      have d42 : u 42 = .bool y := dep hd 26 rfl
      rw [d42]
      refine Gv.call 15 #[.slice A41 b.length c41, .bool y] rfl (by go_simp) ((HK.out.2.2.2 _ _ w g41).mono ?_)
      rintro e w' ⟨A, c, rfl, R, hb⟩
      exact ⟨_, rfl, ⟨A, c, rfl, R⟩, hb⟩
    refine Obs.cons (fun u w hS hd => ?_) ?_
    · have d36 : u 36 = .bool true := dep hd 20 rfl
      rw [d36]
      obtain ⟨A43, c43, d43, g43⟩ : (Know.byt G).ok (u 43) w := dep hd 27 rfl
      rw [d43]
      exact Gv.run (.string ⟨G.toArray⟩) rfl (run_conv rfl rfl (run_str w 22 5 Try.underlying22 Try.underlying5 (dst := 9) Try.underlying9 g43)) rfl
    refine Obs.cons (fun u w hS hd => ?_) ?_
    · have d36 : u 36 = .bool true := dep hd 20 rfl
      rw [d36]
      have d40 : u 40 = .string ⟨G.toArray⟩ := dep hd 24 rfl
      rw [d40]
      have d44 : u 44 = .string ⟨G.toArray⟩ := dep hd 28 rfl
      rw [d44]
      exact Gv.run (.bool true) rfl (by go_simp) rfl
    refine Obs.cons (fun u w hS hd => ?_) ?_
    · have d36 : u 36 = .bool true := dep hd 20 rfl
      rw [d36]
      have d45 : u 45 = .bool true := dep hd 29 rfl
      rw [d45]
      exact Gv.run (.bool true) rfl (by go_simp) rfl
    refine Obs.cons (fun u w hS hd => ?_) ?_
    · have d46 : u 46 = .bool true := dep hd 30 rfl
      rw [d46]
      exact Gv.run (.bool true) rfl (by go_simp) rfl
    refine Obs.cons (fun u w hS hd => ?_) ?_
    · have d47 : u 47 = .bool true := dep hd 31 rfl
      rw [d47]
      exact Gv.run (.slice Ab b.length cb) rfl (by go_simp) (⟨_, _, rfl, (rb.keep hS).mono hS.size⟩)
    refine Obs.cons (fun u w hS hd => ?_) ?_
    · have d47 : u 47 = .bool true := dep hd 31 rfl
      rw [d47]
      obtain ⟨A48, c48, d48, g48⟩ : (Know.byt b).ok (u 48) w := dep hd 32 rfl
      rw [d48]
      exact Gv.run (.string ⟨b.toArray⟩) rfl (run_conv rfl rfl (run_str w 22 5 Try.underlying22 Try.underlying5 (dst := 9) Try.underlying9 g48)) rfl
    refine Obs.cons (fun u w hS hd => ?_) ?_
    · have d47 : u 47 = .bool true := dep hd 31 rfl
      rw [d47]
      exact Gv.run (.slice A0 b.length c0) rfl (by go_simp) (⟨_, _, rfl, (r0.keep hS).mono hS.size⟩)
    refine Obs.cons (fun u w hS hd => ?_) ?_
    · have d47 : u 47 = .bool true := dep hd 31 rfl
      rw [d47]
      obtain ⟨A50, c50, d50, g50⟩ : (Know.byt b).ok (u 50) w := dep hd 34 rfl
      rw [d50]
      exact Gv.run (.string ⟨b.toArray⟩) rfl (run_conv rfl rfl (run_str w 22 5 Try.underlying22 Try.underlying5 (dst := 9) Try.underlying9 g50)) rfl
    refine Obs.cons (fun u w hS hd => ?_) ?_
    · have d47 : u 47 = .bool true := dep hd 31 rfl
      rw [d47]
      have d49 : u 49 = .string ⟨b.toArray⟩ := dep hd 33 rfl
      rw [d49]
      have d51 : u 51 = .string ⟨b.toArray⟩ := dep hd 35 rfl
      rw [d51]
      exact Gv.run (.bool true) rfl (by go_simp) rfl
    refine Obs.cons (fun u w hS hd => ?_) ?_
    · have d47 : u 47 = .bool true := dep hd 31 rfl
      rw [d47]
      have d52 : u 52 = .bool true := dep hd 36 rfl
      rw [d52]
      exact Gv.run (.bool true) rfl (by go_simp) rfl
    refine Obs.cons (fun u w hS hd => ?_) ?_
    · have d53 : u 53 = .bool true := dep hd 37 rfl
      rw [d53]
      exact Gv.run (.bool true) rfl (by go_simp) rfl
    refine Obs.cons (fun u w hS hd => ?_) ?_
    · have d54 : u 54 = .bool true := dep hd 38 rfl
      rw [d54]
      exact Gv.run (.slice As s.length cs) rfl (by go_simp) (⟨_, _, rfl, (rs.keep hS).mono hS.size⟩)
    refine Obs.cons (fun u w hS hd => ?_) ?_
    · have d54 : u 54 = .bool true := dep hd 38 rfl
      rw [d54]
      obtain ⟨A55, c55, d55, g55⟩ : (Know.byt s).ok (u 55) w := dep hd 39 rfl
      rw [d55]
      exact Gv.run (.string ⟨s.toArray⟩) rfl (run_conv rfl rfl (run_str w 22 5 Try.underlying22 Try.underlying5 (dst := 9) Try.underlying9 g55)) rfl
    refine Obs.cons (fun u w hS hd => ?_) ?_
    · have d54 : u 54 = .bool true := dep hd 38 rfl
      rw [d54]
      exact Gv.run (.slice A1 s.length c1) rfl (by go_simp) (⟨_, _, rfl, (r1.keep hS).mono hS.size⟩)
    refine Obs.cons (fun u w hS hd => ?_) ?_
    · have d54 : u 54 = .bool true := dep hd 38 rfl
      rw [d54]
      obtain ⟨A57, c57, d57, g57⟩ : (Know.byt s).ok (u 57) w := dep hd 41 rfl
      rw [d57]
      exact Gv.run (.string ⟨s.toArray⟩) rfl (run_conv rfl rfl (run_str w 22 5 Try.underlying22 Try.underlying5 (dst := 9) Try.underlying9 g57)) rfl
    refine Obs.cons (fun u w hS hd => ?_) ?_
    · have d54 : u 54 = .bool true := dep hd 38 rfl
      rw [d54]
      have d56 : u 56 = .string ⟨s.toArray⟩ := dep hd 40 rfl
      rw [d56]
      have d58 : u 58 = .string ⟨s.toArray⟩ := dep hd 42 rfl
      rw [d58]
      exact Gv.run (.bool true) rfl (by go_simp) rfl
    refine Obs.cons (fun u w hS hd => ?_) ?_
    · have d54 : u 54 = .bool true := dep hd 38 rfl
      rw [d54]
      have d59 : u 59 = .bool true := dep hd 43 rfl
      rw [d59]
      exact Gv.run (.bool true) rfl (by go_simp) rfl
    refine Obs.cons (fun u w hS hd => ?_) ?_
    · have d60 : u 60 = .bool true := dep hd 44 rfl
      rw [d60]
      exact Gv.run (.bool true) rfl (by go_simp) rfl
    refine Obs.cons (fun u w hS hd => ?_) ?_
    · have d61 : u 61 = .bool true := dep hd 45 rfl
      rw [d61]
      refine Gv.call 16 #[] rfl (by go_simp) ((awake13 K w).mono ?_)
      rintro e w' ⟨rfl, hb⟩
      exact ⟨_, rfl, rfl, hb⟩
    exact Obs.nil
  intro u v3 hS hd
  have d62 : u 62 = .bool true := hd 46 (by decide)
  have d61 : u 61 = .bool true := hd 45 (by decide)
  rw [d62, d61]
  replace hc := hc.trans (hS.mono hc.size)
  have HC := Lib.hid hc
  clear hd d62 d61 hS r0 r1 rb rs hc HK HT
  simp only [List.drop_succ_cons, List.drop_zero]
  go_wp2_with fail
  go_ret
  exact ⟨rfl, HC.out⟩
end
end Go.Proofs.Ytonfdnihllhcbaa
