/-
  Layer 10's laws: StreamBlocks. Written by tools/gen_y16.py. By an AI agent.
-/
import Derived.Test.YthbogplajbldaaaY15
import Derived.Test.YthbogplajbldaaaSeq
namespace Go.Proofs.Ythbogplajbldaaa
open Go Go.RowKit
set_option maxRecDepth 20000
theorem str10 (w : World) {n : Nat} {bs : List UInt8} (hl : bs.length = n) {A : Option Addr} {c : Nat} (hr : Rd w w.heap.size A c bs) : (convert 29 9 (.slice A n c)).run Try.prog w = .ok (.string ⟨bs.toArray⟩) w := by
  subst hl
  exact run_str (P := Try.prog) w 29 5 Try.underlying29 Try.underlying5 (dst := 9) Try.underlying9 hr
set_option maxHeartbeats 3200000 in
theorem blocks_bad {A B : Option Addr} {c d ctr : Nat} {key nonce : List UInt8} (hl : key.length ≤ 140737488355328) (hm : nonce.length ≤ 140737488355328) (hbad : key.length ≠ 32 ∨ nonce.length ≠ 12)
    (kg : ∀ (A B : Option Addr) (c d : Nat) (w : World), Rd w w.heap.size A c key → Rd w w.heap.size B d nonce → Calls Try.prog 12 #[.slice A key.length c, .slice B nonce.length d, .int .u32 (ctr : Int)] w fun e w' => e = .returned (.tuple #[.slice none 0 0, .int .i64 1]) ∧ Below w.heap.size w w')
    (w : World) (r0 : Rd w w.heap.size A c key) (q0 : Rd w w.heap.size B d nonce) : Calls Try.prog 4 #[.slice A key.length c, .slice B nonce.length d, .int .u32 (ctr : Int)] w fun e w' => e = .returned (.bool true) ∧ Below w.heap.size w w' := by
  have KG := Lib.hid kg
  have HL := Lib.hid hl
  have HM := Lib.hid hm
  have hcond : ((key.length : Int) != 32) = true ∨ (((key.length : Int) != 32) = false ∧ ((nonce.length : Int) != 12) = true) := by
    by_cases h1 : key.length = 32
    · right; constructor <;> simp <;> omega
    · left; simp; omega
  clear kg hl hm hbad
  have HCD := Lib.hid hcond
  clear hcond
  have hc := Below.refl w.heap.size w
  go_enter Try.func4, Try.ntmps4
  go_wp2_with fail
  go_at_call 11
  refine (own10_rd key _ _ _ HL.out r0).mono ?_
  rintro e y1 ⟨A1, c1, rfl, r1, h0⟩
  replace r0 := (r0.keep h0).mono h0.size
  replace q0 := (q0.keep h0).mono h0.size
  replace hc := hc.trans (h0.mono hc.size)
  clear h0
  go_wp2_with fail
  go_at_call 11
  refine (own10_rd nonce _ _ _ HM.out q0).mono ?_
  rintro e y2 ⟨B1, d1, rfl, q1, h0⟩
  replace r0 := (r0.keep h0).mono h0.size
  replace q0 := (q0.keep h0).mono h0.size
  replace r1 := (r1.keep h0).mono h0.size
  replace hc := hc.trans (h0.mono hc.size)
  clear h0
  go_wp2_with fail
  go_at_call 12
  refine (KG.out _ _ _ _ _ r1 q1).mono ?_
  rintro e y3 ⟨rfl, h0⟩
  replace r0 := (r0.keep h0).mono h0.size
  replace q0 := (q0.keep h0).mono h0.size
  replace r1 := (r1.keep h0).mono h0.size
  replace q1 := (q1.keep h0).mono h0.size
  replace hc := hc.trans (h0.mono hc.size)
  clear h0 KG
  go_upto_region 3 with fail
  refine wp_region_obs 11 [22, 23, 24, 25, 26, 27, 28, 29, 30, 31, 32] [.byt key, .val (.string ⟨key.toArray⟩), .byt key, .val (.string ⟨key.toArray⟩), .val (.bool false), .val (.bool false), .byt nonce, .val (.string ⟨nonce.toArray⟩), .byt nonce, .val (.string ⟨nonce.toArray⟩), .val (.bool false)] (fun wz => Below y3.heap.size y3 wz) (by kernel_rfl) (fun wz wz' hz hb => hz.trans (hb.mono hz.size)) (Below.refl _ _) (fun u => by simp only [puts, List.foldl_cons, List.foldl_nil]; go_simp; exact rfl) ?_ ?_
  · simp only [List.take_succ_cons, List.take_zero]
    refine ObsS.cons (fun u w hS hd => ?_) ?_
    · exact Gv.run (.slice A1 key.length c1) rfl (by go_simp) (⟨_, _, rfl, (r1.keep hS).mono hS.size⟩)
    refine ObsS.cons (fun u w hS hd => ?_) ?_
    · obtain ⟨A22, c22, d22, g22⟩ : (Know.byt key).ok (u 22) w := hd 0 (by decide)
      rw [d22]
      exact Gv.run (.string ⟨key.toArray⟩) rfl (run_conv rfl rfl (run_str w 29 5 Try.underlying29 Try.underlying5 (dst := 9) Try.underlying9 g22)) rfl
    refine ObsS.cons (fun u w hS hd => ?_) ?_
    · exact Gv.run (.slice A key.length c) rfl (by go_simp) (⟨_, _, rfl, (r0.keep hS).mono hS.size⟩)
    refine ObsS.cons (fun u w hS hd => ?_) ?_
    · obtain ⟨A24, c24, d24, g24⟩ : (Know.byt key).ok (u 24) w := hd 2 (by decide)
      rw [d24]
      exact Gv.run (.string ⟨key.toArray⟩) rfl (run_conv rfl rfl (run_str w 29 5 Try.underlying29 Try.underlying5 (dst := 9) Try.underlying9 g24)) rfl
    refine ObsS.cons (fun u w hS hd => ?_) ?_
    · have d23 : u 23 = .string ⟨key.toArray⟩ := hd 1 (by decide)
      rw [d23]
      have d25 : u 25 = .string ⟨key.toArray⟩ := hd 3 (by decide)
      rw [d25]
      exact Gv.run (.bool false) rfl (by go_simp) rfl
    refine ObsS.cons (fun u w hS hd => ?_) ?_
    · have d26 : u 26 = .bool false := hd 4 (by decide)
      rw [d26]
      exact Gv.run (.bool false) rfl (by go_simp) rfl
    refine ObsS.cons (fun u w hS hd => ?_) ?_
    · have d27 : u 27 = .bool false := hd 5 (by decide)
      rw [d27]
      exact Gv.run (.slice B1 nonce.length d1) rfl (by go_simp) (⟨_, _, rfl, (q1.keep hS).mono hS.size⟩)
    refine ObsS.cons (fun u w hS hd => ?_) ?_
    · have d27 : u 27 = .bool false := hd 5 (by decide)
      rw [d27]
      obtain ⟨A28, c28, d28, g28⟩ : (Know.byt nonce).ok (u 28) w := hd 6 (by decide)
      rw [d28]
      exact Gv.run (.string ⟨nonce.toArray⟩) rfl (run_conv rfl rfl (run_str w 29 5 Try.underlying29 Try.underlying5 (dst := 9) Try.underlying9 g28)) rfl
    refine ObsS.cons (fun u w hS hd => ?_) ?_
    · have d27 : u 27 = .bool false := hd 5 (by decide)
      rw [d27]
      exact Gv.run (.slice B nonce.length d) rfl (by go_simp) (⟨_, _, rfl, (q0.keep hS).mono hS.size⟩)
    refine ObsS.cons (fun u w hS hd => ?_) ?_
    · have d27 : u 27 = .bool false := hd 5 (by decide)
      rw [d27]
      obtain ⟨A30, c30, d30, g30⟩ : (Know.byt nonce).ok (u 30) w := hd 8 (by decide)
      rw [d30]
      exact Gv.run (.string ⟨nonce.toArray⟩) rfl (run_conv rfl rfl (run_str w 29 5 Try.underlying29 Try.underlying5 (dst := 9) Try.underlying9 g30)) rfl
    refine ObsS.cons (fun u w hS hd => ?_) ?_
    · have d27 : u 27 = .bool false := hd 5 (by decide)
      rw [d27]
      have d29 : u 29 = .string ⟨nonce.toArray⟩ := hd 7 (by decide)
      rw [d29]
      have d31 : u 31 = .string ⟨nonce.toArray⟩ := hd 9 (by decide)
      rw [d31]
      exact Gv.run (.bool false) rfl (by go_simp) rfl
    exact ObsS.nil
  intro u wz hS hd
  have d27 : u 27 = .bool false := hd 5 (by decide)
  rw [d27]
  have d32 : u 32 = .bool false := hd 10 (by decide)
  rw [d32]
  clear hd d27 d32
  simp only [List.drop_succ_cons, List.drop_zero]
  replace hc := hc.trans (hS.mono hc.size)
  clear hS r0 r1 q0 q1
  rcases HCD.out with g1 | ⟨g1, g2⟩
  · go_wp2_with fail
    go_at_call 10
    refine (awake10 wz).mono ?_
    rintro e y5 ⟨rfl, h0⟩
    replace hc := hc.trans (h0.mono hc.size)
    go_wp2_with fail
    go_ret
    exact ⟨rfl, hc⟩
  · go_wp2_with fail
    go_at_call 10
    refine (awake10 wz).mono ?_
    rintro e y5 ⟨rfl, h0⟩
    replace hc := hc.trans (h0.mono hc.size)
    go_wp2_with fail
    go_ret
    exact ⟨rfl, hc⟩
set_option maxHeartbeats 3200000 in
theorem blocks_yes {A B : Option Addr} {c d ctr : Nat} {key nonce L : List UInt8} (hk : key.length = 32) (hn : nonce.length = 12) (hL : L.length = 64)
    (kg : ∀ (A B : Option Addr) (c d : Nat) (w : World), Rd w w.heap.size A c key → Rd w w.heap.size B d nonce → Calls Try.prog 12 #[.slice A key.length c, .slice B nonce.length d, .int .u32 (ctr : Int)] w fun e w' => ∃ A2 c2, e = .returned (.tuple #[.slice A2 64 c2, .int .i64 0]) ∧ Rd w' w'.heap.size A2 c2 L ∧ Below w.heap.size w w')
    (kr : ∀ (A B : Option Addr) (c d : Nat) (w : World), Rd w w.heap.size A c key → Rd w w.heap.size B d nonce → Calls Try.prog 13 #[.slice A 32 c, .slice B 12 d, .int .u32 (ctr : Int)] w fun e w' => ∃ A2 c2, e = .returned (.slice A2 64 c2) ∧ Rd w' w'.heap.size A2 c2 L ∧ Below w.heap.size w w')
    (w : World) (r0 : Rd w w.heap.size A c key) (q0 : Rd w w.heap.size B d nonce) : Calls Try.prog 4 #[.slice A key.length c, .slice B nonce.length d, .int .u32 (ctr : Int)] w fun e w' => e = .returned (.bool true) ∧ Below w.heap.size w w' := by
  have KG := Lib.hid kg
  have KR := Lib.hid kr
  have HL := Lib.hid (show key.length ≤ 140737488355328 by omega)
  have HM := Lib.hid (show nonce.length ≤ 140737488355328 by omega)
  have g1 : ((key.length : Int) != 32) = false := by simp; omega
  have g2 : ((nonce.length : Int) != 12) = false := by simp; omega
  have HK := Lib.hid hk
  have HN := Lib.hid hn
  have HL4 := Lib.hid hL
  clear kg kr hk hn hL
  have hc := Below.refl w.heap.size w
  go_enter Try.func4, Try.ntmps4
  go_wp2_with fail
  go_at_call 11
  refine (own10_rd key _ _ _ HL.out r0).mono ?_
  rintro e y1 ⟨A1, c1, rfl, r1, h0⟩
  replace r0 := (r0.keep h0).mono h0.size
  replace q0 := (q0.keep h0).mono h0.size
  replace hc := hc.trans (h0.mono hc.size)
  clear h0
  go_wp2_with fail
  go_at_call 11
  refine (own10_rd nonce _ _ _ HM.out q0).mono ?_
  rintro e y2 ⟨B1, d1, rfl, q1, h0⟩
  replace r0 := (r0.keep h0).mono h0.size
  replace q0 := (q0.keep h0).mono h0.size
  replace r1 := (r1.keep h0).mono h0.size
  replace hc := hc.trans (h0.mono hc.size)
  clear h0
  go_wp2_with fail
  go_at_call 12
  refine (KG.out _ _ _ _ _ r1 q1).mono ?_
  rintro e y3 ⟨A2, c2, rfl, r2, h0⟩
  replace r0 := (r0.keep h0).mono h0.size
  replace q0 := (q0.keep h0).mono h0.size
  replace r1 := (r1.keep h0).mono h0.size
  replace q1 := (q1.keep h0).mono h0.size
  replace hc := hc.trans (h0.mono hc.size)
  clear h0 KG
  go_upto_region 3 with fail
  refine wp_region_obs 11 [22, 23, 24, 25, 26, 27, 28, 29, 30, 31, 32] [.byt key, .val (.string ⟨key.toArray⟩), .byt key, .val (.string ⟨key.toArray⟩), .val (.bool false), .val (.bool false), .byt nonce, .val (.string ⟨nonce.toArray⟩), .byt nonce, .val (.string ⟨nonce.toArray⟩), .val (.bool false)] (fun wz => Below y3.heap.size y3 wz) (by kernel_rfl) (fun wz wz' hz hb => hz.trans (hb.mono hz.size)) (Below.refl _ _) (fun u => by simp only [puts, List.foldl_cons, List.foldl_nil]; go_simp; exact rfl) ?_ ?_
  · simp only [List.take_succ_cons, List.take_zero]
    refine ObsS.cons (fun u w hS hd => ?_) ?_
    · exact Gv.run (.slice A1 key.length c1) rfl (by go_simp) (⟨_, _, rfl, (r1.keep hS).mono hS.size⟩)
    refine ObsS.cons (fun u w hS hd => ?_) ?_
    · obtain ⟨A22, c22, d22, g22⟩ : (Know.byt key).ok (u 22) w := hd 0 (by decide)
      rw [d22]
      exact Gv.run (.string ⟨key.toArray⟩) rfl (run_conv rfl rfl (run_str w 29 5 Try.underlying29 Try.underlying5 (dst := 9) Try.underlying9 g22)) rfl
    refine ObsS.cons (fun u w hS hd => ?_) ?_
    · exact Gv.run (.slice A key.length c) rfl (by go_simp) (⟨_, _, rfl, (r0.keep hS).mono hS.size⟩)
    refine ObsS.cons (fun u w hS hd => ?_) ?_
    · obtain ⟨A24, c24, d24, g24⟩ : (Know.byt key).ok (u 24) w := hd 2 (by decide)
      rw [d24]
      exact Gv.run (.string ⟨key.toArray⟩) rfl (run_conv rfl rfl (run_str w 29 5 Try.underlying29 Try.underlying5 (dst := 9) Try.underlying9 g24)) rfl
    refine ObsS.cons (fun u w hS hd => ?_) ?_
    · have d23 : u 23 = .string ⟨key.toArray⟩ := hd 1 (by decide)
      rw [d23]
      have d25 : u 25 = .string ⟨key.toArray⟩ := hd 3 (by decide)
      rw [d25]
      exact Gv.run (.bool false) rfl (by go_simp) rfl
    refine ObsS.cons (fun u w hS hd => ?_) ?_
    · have d26 : u 26 = .bool false := hd 4 (by decide)
      rw [d26]
      exact Gv.run (.bool false) rfl (by go_simp) rfl
    refine ObsS.cons (fun u w hS hd => ?_) ?_
    · have d27 : u 27 = .bool false := hd 5 (by decide)
      rw [d27]
      exact Gv.run (.slice B1 nonce.length d1) rfl (by go_simp) (⟨_, _, rfl, (q1.keep hS).mono hS.size⟩)
    refine ObsS.cons (fun u w hS hd => ?_) ?_
    · have d27 : u 27 = .bool false := hd 5 (by decide)
      rw [d27]
      obtain ⟨A28, c28, d28, g28⟩ : (Know.byt nonce).ok (u 28) w := hd 6 (by decide)
      rw [d28]
      exact Gv.run (.string ⟨nonce.toArray⟩) rfl (run_conv rfl rfl (run_str w 29 5 Try.underlying29 Try.underlying5 (dst := 9) Try.underlying9 g28)) rfl
    refine ObsS.cons (fun u w hS hd => ?_) ?_
    · have d27 : u 27 = .bool false := hd 5 (by decide)
      rw [d27]
      exact Gv.run (.slice B nonce.length d) rfl (by go_simp) (⟨_, _, rfl, (q0.keep hS).mono hS.size⟩)
    refine ObsS.cons (fun u w hS hd => ?_) ?_
    · have d27 : u 27 = .bool false := hd 5 (by decide)
      rw [d27]
      obtain ⟨A30, c30, d30, g30⟩ : (Know.byt nonce).ok (u 30) w := hd 8 (by decide)
      rw [d30]
      exact Gv.run (.string ⟨nonce.toArray⟩) rfl (run_conv rfl rfl (run_str w 29 5 Try.underlying29 Try.underlying5 (dst := 9) Try.underlying9 g30)) rfl
    refine ObsS.cons (fun u w hS hd => ?_) ?_
    · have d27 : u 27 = .bool false := hd 5 (by decide)
      rw [d27]
      have d29 : u 29 = .string ⟨nonce.toArray⟩ := hd 7 (by decide)
      rw [d29]
      have d31 : u 31 = .string ⟨nonce.toArray⟩ := hd 9 (by decide)
      rw [d31]
      exact Gv.run (.bool false) rfl (by go_simp) rfl
    exact ObsS.nil
  intro u wz hS hd
  have d27 : u 27 = .bool false := hd 5 (by decide)
  rw [d27]
  have d32 : u 32 = .bool false := hd 10 (by decide)
  rw [d32]
  clear hd d27 d32
  simp only [List.drop_succ_cons, List.drop_zero]
  obtain ⟨y4, ey⟩ : ∃ v, v = wz := ⟨_, rfl⟩
  rw [← ey] at hS ⊢
  clear ey
  replace r0 := (r0.keep hS).mono hS.size
  replace q0 := (q0.keep hS).mono hS.size
  replace r2 := (r2.keep hS).mono hS.size
  replace hc := hc.trans (hS.mono hc.size)
  clear hS r1 q1
  go_upto_region 7 with fail
  rw [HK.out, HN.out]
  refine wp_region_inv 14 [52, 53, 54, 55, 56, 57, 58, 59, 60, 61, 62, 63, 64, 65] [.byt L, .val (.string ⟨L.toArray⟩), .byt key, .byt nonce, .val (.int .u32 (ctr : Int)), .byt L, .val (.string ⟨L.toArray⟩), .val (.bool true), .val (.bool true), .val (.int .i64 0), .val (.bool true), .val (.bool true), .val (.bool true), .val (.bool true)] (fun wz => Below y4.heap.size y4 wz) (by kernel_rfl) (by kernel_rfl) (fun wz wz' hz hb => hz.trans (hb.mono hz.size)) ((Below.refl _ _).drew) (fun u => by simp only [puts, List.foldl_cons, List.foldl_nil]; go_simp; exact rfl) ?_ ?_
  · simp only [List.take_succ_cons, List.take_zero]
    refine Obs.cons (fun u w hS hd => ?_) ?_
    · exact Gv.run (.slice A2 64 c2) rfl (by go_simp) (⟨_, _, by rw [HL4.out], (r2.keep hS).mono hS.size⟩)
    refine Obs.cons (fun u w hS hd => ?_) ?_
    · obtain ⟨A52, c52, d52, g52⟩ : (Know.byt L).ok (u 52) w := dep hd 0 rfl
      rw [HL4.out] at d52
      rw [d52]
      exact Gv.run (.string ⟨L.toArray⟩) rfl (run_conv rfl rfl (str10 w HL4.out g52)) rfl
    refine Obs.cons (fun u w hS hd => ?_) ?_
    · exact Gv.run (.slice A 32 c) rfl (by go_simp) (⟨_, _, by rw [HK.out], (r0.keep hS).mono hS.size⟩)
    refine Obs.cons (fun u w hS hd => ?_) ?_
    · exact Gv.run (.slice B 12 d) rfl (by go_simp) (⟨_, _, by rw [HN.out], (q0.keep hS).mono hS.size⟩)
    refine Obs.cons (fun u w hS hd => ?_) ?_
    · exact Gv.run (.int .u32 (ctr : Int)) rfl (by go_simp) rfl
    refine Obs.cons (fun u w hS hd => ?_) ?_
    · obtain ⟨A54, c54, d54, g54⟩ : (Know.byt key).ok (u 54) w := dep hd 2 rfl
      rw [HK.out] at d54
      rw [d54]
      obtain ⟨A55, c55, d55, g55⟩ : (Know.byt nonce).ok (u 55) w := dep hd 3 rfl
      rw [HN.out] at d55
      rw [d55]
      have d56 : u 56 = .int .u32 (ctr : Int) := dep hd 4 rfl
      rw [d56]
      refine Gv.call 13 #[.slice A54 32 c54, .slice A55 12 c55, .int .u32 (ctr : Int)] rfl (by go_simp) ((KR.out _ _ _ _ w g54 g55).mono ?_)
      rintro e w' ⟨A, c, rfl, R, hb⟩
      exact ⟨_, rfl, ⟨A, c, by rw [HL4.out], R⟩, hb⟩
    refine Obs.cons (fun u w hS hd => ?_) ?_
    · obtain ⟨A57, c57, d57, g57⟩ : (Know.byt L).ok (u 57) w := dep hd 5 rfl
      rw [HL4.out] at d57
      rw [d57]
      exact Gv.run (.string ⟨L.toArray⟩) rfl (run_conv rfl rfl (str10 w HL4.out g57)) rfl
    refine Obs.cons (fun u w hS hd => ?_) ?_
    · have d53 : u 53 = .string ⟨L.toArray⟩ := dep hd 1 rfl
      rw [d53]
      have d58 : u 58 = .string ⟨L.toArray⟩ := dep hd 6 rfl
      rw [d58]
      exact Gv.run (.bool true) rfl (by go_simp) rfl
    refine Obs.cons (fun u w hS hd => ?_) ?_
    · have d59 : u 59 = .bool true := dep hd 7 rfl
      rw [d59]
      exact Gv.run (.bool true) rfl (by go_simp) rfl
    refine Obs.cons (fun u w hS hd => ?_) ?_
    · have d60 : u 60 = .bool true := dep hd 8 rfl
      rw [d60]
      exact Gv.run (.int .i64 0) rfl (by go_simp) rfl
    refine Obs.cons (fun u w hS hd => ?_) ?_
    · have d60 : u 60 = .bool true := dep hd 8 rfl
      rw [d60]
      have d61 : u 61 = .int .i64 0 := dep hd 9 rfl
      rw [d61]
      exact Gv.run (.bool true) rfl (by go_simp) rfl
    refine Obs.cons (fun u w hS hd => ?_) ?_
    · have d60 : u 60 = .bool true := dep hd 8 rfl
      rw [d60]
      have d62 : u 62 = .bool true := dep hd 10 rfl
      rw [d62]
      exact Gv.run (.bool true) rfl (by go_simp) rfl
    refine Obs.cons (fun u w hS hd => ?_) ?_
    · have d63 : u 63 = .bool true := dep hd 11 rfl
      rw [d63]
      exact Gv.run (.bool true) rfl (by go_simp) rfl
    refine Obs.cons (fun u w hS hd => ?_) ?_
    · have d64 : u 64 = .bool true := dep hd 12 rfl
      rw [d64]
      refine Gv.call 10 #[] rfl (by go_simp) ((awake10 w).mono ?_)
      rintro e w' ⟨rfl, hb⟩
      exact ⟨_, rfl, rfl, hb⟩
    exact Obs.nil
  intro u wz hS hd
  have d64 : u 64 = .bool true := hd 12 (by decide)
  rw [d64]
  have d65 : u 65 = .bool true := hd 13 (by decide)
  rw [d65]
  clear hd d64 d65
  simp only [List.drop_succ_cons, List.drop_zero]
  have hfin := hc.trans (hS.mono hc.size)
  go_wp2_with fail
  go_ret
  exact ⟨rfl, hfin⟩
end Go.Proofs.Ythbogplajbldaaa
