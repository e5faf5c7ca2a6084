/-
  Layer 13's law WireForm over contracts. Written by tools/gen_wc2.py. By an AI agent.
-/
import Derived.Test.YtonfdnihllhcbaaWc1
import Derived.Test.YtonfdnihllhcbaaWi9
namespace Go.Proofs.Ytonfdnihllhcbaa
open Go Go.RowKit
set_option maxRecDepth 20000
section
variable {R : RdrP} (K : WireC R)
include K
set_option maxHeartbeats 6400000 in
theorem form_11 {A0 : Option Addr} {c0 : Nat} {b rs1 rs2 s : List UInt8} {x : Nat}  (hN1 : numR b 0 0 1099511627776 = (rs1, 0, x)) (hN2 : textR b 0 (b.length : Int) = (rs2, 0, s))   (hl : b.length ≤ 140737488351232) (w : World) (r0 : Rd w w.heap.size A0 c0 b) :
    Calls Try.prog 6 #[.slice A0 b.length c0] w fun e w' => e = .returned (.bool true) ∧ Below w.heap.size w w' := by
  have F1 := form_num hN1
  have F2 := form_text hN2
  have hsl : s.length ≤ b.length := by
    have := textR_len (bs := b) 0 (b.length : Int)
    rw [hN2] at this
    exact this
  obtain ⟨n, en⟩ : ∃ n, n = b.length := ⟨_, rfl⟩
  rw [← en] at hl hN2 hsl ⊢
  rw [← en] at F1
  rw [← en] at F2
  have HNB := Lib.hid en.symm
  have HLN := Lib.hid hl
  obtain ⟨k, ek⟩ : ∃ k, k = s.length := ⟨_, rfl⟩
  have HSK := Lib.hid ek.symm
  have HKL := Lib.hid (show k ≤ 140737488355320 by omega)
  obtain ⟨l1, el1⟩ : ∃ l, l = rs1.length := ⟨_, rfl⟩
  obtain ⟨m1, em1⟩ : ∃ m, m = n - l1 := ⟨_, rfl⟩
  rw [← el1, ← em1] at F1
  have w1 : IntKind.i64.wrap ((n : Int) - (l1 : Int)) = (m1 : Int) := by have := F1.1; rw [IntKind.wrap_i64]; omega
  have HRS1 := Lib.hid el1.symm
  have HM1 := Lib.hid (And.intro (show m1 ≤ n by omega) (And.intro F1.2.1 F1.2.2.1))
  clear el1 em1 F1
  obtain ⟨l2, el2⟩ : ∃ l, l = rs2.length := ⟨_, rfl⟩
  obtain ⟨m2, em2⟩ : ∃ m, m = n - l2 := ⟨_, rfl⟩
  rw [← el2, ← em2] at F2
  have w2 : IntKind.i64.wrap ((n : Int) - (l2 : Int)) = (m2 : Int) := by have := F2.1; rw [IntKind.wrap_i64]; omega
  have HRS2 := Lib.hid el2.symm
  have HM2 := Lib.hid (And.intro (show m2 ≤ n by omega) (And.intro F2.2.1 F2.2.2.1))
  clear el2 em2 F2
  have HN1 := Lib.hid hN1
  have HN2 := Lib.hid hN2
  have hc := Below.refl w.heap.size w
  have K' := Lib.hid K
  clear hN1 hN2 en ek hl hsl
  obtain ⟨v0, ev⟩ : ∃ v, v = w := ⟨_, rfl⟩
  rw [show Calls Try.prog 6 #[.slice A0 n c0] w = Calls Try.prog 6 #[.slice A0 n c0] v0 by rw [ev]]
  replace hc : Below w.heap.size w v0 := by rw [ev]; exact hc
  replace r0 : Rd v0 w.heap.size A0 c0 b := by rw [ev]; exact r0
  clear ev
  go_enter Try.func6, Try.ntmps6
  go_wp2_with fail
  go_at_call 9
  refine (own13_len HNB.out v0 r0 hc.size (by have := HLN.out; omega)).mono ?_
  rintro z v1 ⟨A1, c1, rfl, o1, h0⟩
  have r1 := o1.rd
  replace r0 := r0.keep (h0.mono hc.size)
  have hB1 := Nat.le_trans hc.size h0.size
  replace hc := hc.trans (h0.mono hc.size)
  clear h0 o1
  go_wp2_with fail
  go_at_call 17
  refine (wc_read K HNB.out v1 r1 (by have := HLN.out; omega)).mono ?_
  rintro z v2 ⟨p, rfl, q2, h0⟩
  replace r0 := r0.keep (h0.mono hc.size)
  replace hc := hc.trans (h0.mono hc.size)
  clear h0 r1
  have HK := Lib.hid (K.number 0 1099511627776 v2 q2)
  rw [HN1.out] at HK
  go_wp2_with fail
  go_at_call 24
  refine HK.out.mono ?_
  rintro z v3 ⟨rfl, q3, h0⟩
  have hb0 := h0.low (Nat.le_trans (K.le q2).1 (K.le q2).2) hB1
  replace r0 := r0.keep hb0
  replace hc := hc.trans hb0
  clear h0 hb0 q2 hB1 HK
  have HQ := Lib.hid q3
  have HR0 := Lib.hid (fun wz (hz : Below v3.heap.size v3 wz) => (r0.keep (hz.mono hc.size)).mono (Nat.le_trans hc.size hz.size))
  clear q3
  go_upto_region 3 with fail
  refine wp_region_inv 16 [11, 12, 13, 14, 15, 16, 17, 18, 19, 20, 21, 22, 23, 24, 25, 26] [.val (p), .val (.int .i64 0), .val (.bool true), .val (.bool true), .val (.int .i64 (x : Int)), .byt (b.take m1), .val (.string ⟨(b.take m1).toArray⟩), .byt b, .byt b, .val (.int .i64 (n : Int)), .val (p), .val (.int .i64 (l1 : Int)), .val (.int .i64 (m1 : Int)), .byt (b.take m1), .val (.string ⟨(b.take m1).toArray⟩), .val (.bool false)] (fun wz => Below v3.heap.size v3 wz) (by kernel_rfl) (by kernel_rfl) (fun wz wz' hz hb => hz.trans (hb.mono hz.size)) ((Below.refl _ _).drew) (fun u => by simp only [puts, List.foldl_cons, List.foldl_nil]; go_simp; exact rfl) ?_ ?_
  · simp only [List.take_succ_cons, List.take_zero]
    refine Obs.cons (fun u w hS hd => ?_) ?_
    · exact Gv.run (p) rfl (by go_simp) rfl
    refine Obs.cons (fun u w hS hd => ?_) ?_
    · have d11 : u 11 = p := dep hd 0 rfl
      rw [d11]
      refine Gv.call 20 #[p] rfl (by go_simp) ((wc_err K w (K.next HQ.out hS)).mono ?_)
      rintro e w' ⟨rfl, hb⟩
      exact ⟨_, rfl, rfl, hb⟩
    refine Obs.cons (fun u w hS hd => ?_) ?_
    · have d12 : u 12 = .int .i64 0 := dep hd 1 rfl
      rw [d12]
      exact Gv.run (.bool true) rfl (by go_simp) rfl
    refine Obs.cons (fun u w hS hd => ?_) ?_
    · have d13 : u 13 = .bool true := dep hd 2 rfl
      rw [d13]
      exact Gv.run (.bool true) rfl (by go_simp) rfl
    refine Obs.cons (fun u w hS hd => ?_) ?_
    · have d14 : u 14 = .bool true := dep hd 3 rfl
      rw [d14]
      exact Gv.run (.int .i64 (x : Int)) rfl (by go_simp) rfl
    refine Obs.cons (fun u w hS hd => ?_) ?_
    · have d14 : u 14 = .bool true := dep hd 3 rfl
      rw [d14]
      have d15 : u 15 = .int .i64 (x : Int) := dep hd 4 rfl
      rw [d15]
      refine Gv.call 10 #[.slice none 0 0, .int .i64 (x : Int)] rfl (by go_simp) ((wc_put K HM1.out.2.1 HM1.out.2.2 w).mono ?_)
      rintro e w' ⟨A, c, rfl, R, hb⟩
      exact ⟨_, rfl, ⟨A, c, by rw [HM1.out.2.2], R⟩, hb⟩
    refine Obs.cons (fun u w hS hd => ?_) ?_
    · have d14 : u 14 = .bool true := dep hd 3 rfl
      rw [d14]
      obtain ⟨A16, c16, d16, g16⟩ : (Know.byt (b.take m1)).ok (u 16) w := dep hd 5 rfl
      rw [HM1.out.2.2] at d16
      rw [d16]
      exact Gv.run (.string ⟨(b.take m1).toArray⟩) rfl (run_conv rfl rfl (str13 w HM1.out.2.2 g16)) rfl
    refine Obs.cons (fun u w hS hd => ?_) ?_
    · have d14 : u 14 = .bool true := dep hd 3 rfl
      rw [d14]
      exact Gv.run (.slice A0 n c0) rfl (by go_simp) (⟨_, _, by rw [HNB.out], HR0.out w hS⟩)
    refine Obs.cons (fun u w hS hd => ?_) ?_
    · have d14 : u 14 = .bool true := dep hd 3 rfl
      rw [d14]
      exact Gv.run (.slice A0 n c0) rfl (by go_simp) (⟨_, _, by rw [HNB.out], HR0.out w hS⟩)
    refine Obs.cons (fun u w hS hd => ?_) ?_
    · have d14 : u 14 = .bool true := dep hd 3 rfl
      rw [d14]
      obtain ⟨A19, c19, d19, g19⟩ : (Know.byt b).ok (u 19) w := dep hd 8 rfl
      rw [HNB.out] at d19
      rw [d19]
      exact Gv.run (.int .i64 (n : Int)) (by rfl) (by go_simp) rfl
    refine Obs.cons (fun u w hS hd => ?_) ?_
    · have d14 : u 14 = .bool true := dep hd 3 rfl
      rw [d14]
      exact Gv.run (p) rfl (by go_simp) rfl
    refine Obs.cons (fun u w hS hd => ?_) ?_
    · have d14 : u 14 = .bool true := dep hd 3 rfl
      rw [d14]
      have d21 : u 21 = p := dep hd 10 rfl
      rw [d21]
      refine Gv.call 21 #[p] rfl (by go_simp) ((wc_left K HRS1.out w (K.next HQ.out hS)).mono ?_)
      rintro e w' ⟨rfl, hb⟩
      exact ⟨_, rfl, rfl, hb⟩
    refine Obs.cons (fun u w hS hd => ?_) ?_
    · have d14 : u 14 = .bool true := dep hd 3 rfl
      rw [d14]
      have d20 : u 20 = .int .i64 (n : Int) := dep hd 9 rfl
      rw [d20]
      have d22 : u 22 = .int .i64 (l1 : Int) := dep hd 11 rfl
      rw [d22]
      exact Gv.run (.int .i64 (m1 : Int)) (by rfl) (by go_simp) rfl
    refine Obs.cons (fun u w hS hd => ?_) ?_
    · have d14 : u 14 = .bool true := dep hd 3 rfl
      rw [d14]
      obtain ⟨A18, c18, d18, g18⟩ : (Know.byt b).ok (u 18) w := dep hd 7 rfl
      rw [HNB.out] at d18
      rw [d18]
      have d23 : u 23 = .int .i64 (m1 : Int) := dep hd 12 rfl
      rw [d23]
      have hT2 := g18.cut0 (n := m1) (by rw [HNB.out]; exact HM1.out.1)
      exact Gv.run (.slice (subA A18 c18 0) m1 c18) (by rfl) (slice_op_hi0 rfl rfl rfl (Nat.le_trans HM1.out.1 (by have := g18.cap; rw [HNB.out] at this; exact this))) ⟨_, _, by rw [HM1.out.2.2], hT2⟩
    refine Obs.cons (fun u w hS hd => ?_) ?_
    · have d14 : u 14 = .bool true := dep hd 3 rfl
      rw [d14]
      obtain ⟨A24, c24, d24, g24⟩ : (Know.byt (b.take m1)).ok (u 24) w := dep hd 13 rfl
      rw [HM1.out.2.2] at d24
      rw [d24]
      exact Gv.run (.string ⟨(b.take m1).toArray⟩) rfl (run_conv rfl rfl (str13 w HM1.out.2.2 g24)) rfl
    refine Obs.cons (fun u w hS hd => ?_) ?_
    · have d14 : u 14 = .bool true := dep hd 3 rfl
      rw [d14]
      have d17 : u 17 = .string ⟨(b.take m1).toArray⟩ := dep hd 6 rfl
      rw [d17]
      have d25 : u 25 = .string ⟨(b.take m1).toArray⟩ := dep hd 14 rfl
      rw [d25]
      exact Gv.run (.bool false) rfl (by go_simp) rfl
    exact Obs.nil
  intro u v4 hS hd
  have d26 : u 26 = .bool false := hd 15 (by decide)
  have d14 : u 14 = .bool true := hd 3 (by decide)
  rw [d26, d14]
  replace r0 := r0.keep (hS.mono hc.size)
  replace hc := hc.trans (hS.mono hc.size)
  clear hd d26 d14 hS HQ HR0
  simp only [List.drop_succ_cons, List.drop_zero]
  clear HN1 HRS1 HM1
  obtain ⟨v0, ev⟩ : ∃ v, v = v4 := ⟨_, rfl⟩
  rw [← ev] at r0 hc ⊢
  clear ev
  go_wp2_with fail
  go_at_call 9
  refine (own13_len HNB.out v0 r0 hc.size (by have := HLN.out; omega)).mono ?_
  rintro z v1 ⟨A1, c1, rfl, o1, h0⟩
  have r1 := o1.rd
  replace r0 := r0.keep (h0.mono hc.size)
  have hB1 := Nat.le_trans hc.size h0.size
  replace hc := hc.trans (h0.mono hc.size)
  clear h0 o1
  go_wp2_with fail
  go_at_call 17
  refine (wc_read K HNB.out v1 r1 (by have := HLN.out; omega)).mono ?_
  rintro z v2 ⟨p, rfl, q2, h0⟩
  replace r0 := r0.keep (h0.mono hc.size)
  replace hc := hc.trans (h0.mono hc.size)
  clear h0 r1
  have HK := Lib.hid (K.text (n : Int) v2 q2)
  rw [HN2.out] at HK
  simp only at HK
  rw [HSK.out] at HK
  go_wp2_with fail
  go_at_call 25
  refine HK.out.mono ?_
  rintro z v3 ⟨A5, c5, rfl, r5, _, q3, h0⟩
  have HR5 := Lib.hid (fun wz (hz : Below v3.heap.size v3 wz) => (r5.keep hz).mono hz.size)
  clear r5
  have hb0 := h0.low (Nat.le_trans (K.le q2).1 (K.le q2).2) hB1
  replace r0 := r0.keep hb0
  replace hc := hc.trans hb0
  clear h0 hb0 q2 hB1 HK
  have HQ := Lib.hid q3
  have HR0 := Lib.hid (fun wz (hz : Below v3.heap.size v3 wz) => (r0.keep (hz.mono hc.size)).mono (Nat.le_trans hc.size hz.size))
  clear q3
  go_upto_region 7 with fail
  refine wp_region_inv 16 [35, 36, 37, 38, 39, 40, 41, 42, 43, 44, 45, 46, 47, 48, 49, 50] [.val (p), .val (.int .i64 0), .val (.bool true), .val (.bool true), .byt s, .byt (b.take m2), .val (.string ⟨(b.take m2).toArray⟩), .byt b, .byt b, .val (.int .i64 (n : Int)), .val (p), .val (.int .i64 (l2 : Int)), .val (.int .i64 (m2 : Int)), .byt (b.take m2), .val (.string ⟨(b.take m2).toArray⟩), .val (.bool false)] (fun wz => Below v3.heap.size v3 wz) (by kernel_rfl) (by kernel_rfl) (fun wz wz' hz hb => hz.trans (hb.mono hz.size)) ((Below.refl _ _).drew) (fun u => by simp only [puts, List.foldl_cons, List.foldl_nil]; go_simp; exact rfl) ?_ ?_
  · simp only [List.take_succ_cons, List.take_zero]
    refine Obs.cons (fun u w hS hd => ?_) ?_
    · exact Gv.run (p) rfl (by go_simp) rfl
    refine Obs.cons (fun u w hS hd => ?_) ?_
    · have d35 : u 35 = p := dep hd 0 rfl
      rw [d35]
      refine Gv.call 20 #[p] rfl (by go_simp) ((wc_err K w (K.next HQ.out hS)).mono ?_)
      rintro e w' ⟨rfl, hb⟩
      exact ⟨_, rfl, rfl, hb⟩
    refine Obs.cons (fun u w hS hd => ?_) ?_
    · have d36 : u 36 = .int .i64 0 := dep hd 1 rfl
      rw [d36]
      exact Gv.run (.bool true) rfl (by go_simp) rfl
    refine Obs.cons (fun u w hS hd => ?_) ?_
    · have d37 : u 37 = .bool true := dep hd 2 rfl
      rw [d37]
      exact Gv.run (.bool true) rfl (by go_simp) rfl
    refine Obs.cons (fun u w hS hd => ?_) ?_
    · have d38 : u 38 = .bool true := dep hd 3 rfl
      rw [d38]
      exact Gv.run (.slice A5 k c5) rfl (by go_simp) (⟨_, _, by rw [HSK.out], HR5.out w hS⟩)
    refine Obs.cons (fun u w hS hd => ?_) ?_
    · have d38 : u 38 = .bool true := dep hd 3 rfl
      rw [d38]
      obtain ⟨A39, c39, d39, g39⟩ : (Know.byt s).ok (u 39) w := dep hd 4 rfl
      rw [HSK.out] at d39
      rw [d39]
      refine Gv.call 12 #[.slice none 0 0, .slice A39 k c39] rfl (by go_simp) ((wc_text K HM2.out.2.1 HM2.out.2.2 HSK.out HKL.out w g39).mono ?_)
      rintro e w' ⟨A, c, rfl, R, hb⟩
      exact ⟨_, rfl, ⟨A, c, by rw [HM2.out.2.2], R⟩, hb⟩
    refine Obs.cons (fun u w hS hd => ?_) ?_
    · have d38 : u 38 = .bool true := dep hd 3 rfl
      rw [d38]
      obtain ⟨A40, c40, d40, g40⟩ : (Know.byt (b.take m2)).ok (u 40) w := dep hd 5 rfl
      rw [HM2.out.2.2] at d40
      rw [d40]
      exact Gv.run (.string ⟨(b.take m2).toArray⟩) rfl (run_conv rfl rfl (str13 w HM2.out.2.2 g40)) rfl
    refine Obs.cons (fun u w hS hd => ?_) ?_
    · have d38 : u 38 = .bool true := dep hd 3 rfl
      rw [d38]
      exact Gv.run (.slice A0 n c0) rfl (by go_simp) (⟨_, _, by rw [HNB.out], HR0.out w hS⟩)
    refine Obs.cons (fun u w hS hd => ?_) ?_
    · have d38 : u 38 = .bool true := dep hd 3 rfl
      rw [d38]
      exact Gv.run (.slice A0 n c0) rfl (by go_simp) (⟨_, _, by rw [HNB.out], HR0.out w hS⟩)
    refine Obs.cons (fun u w hS hd => ?_) ?_
    · have d38 : u 38 = .bool true := dep hd 3 rfl
      rw [d38]
      obtain ⟨A43, c43, d43, g43⟩ : (Know.byt b).ok (u 43) w := dep hd 8 rfl
      rw [HNB.out] at d43
      rw [d43]
      exact Gv.run (.int .i64 (n : Int)) (by rfl) (by go_simp) rfl
    refine Obs.cons (fun u w hS hd => ?_) ?_
    · have d38 : u 38 = .bool true := dep hd 3 rfl
      rw [d38]
      exact Gv.run (p) rfl (by go_simp) rfl
    refine Obs.cons (fun u w hS hd => ?_) ?_
    · have d38 : u 38 = .bool true := dep hd 3 rfl
      rw [d38]
      have d45 : u 45 = p := dep hd 10 rfl
      rw [d45]
      refine Gv.call 21 #[p] rfl (by go_simp) ((wc_left K HRS2.out w (K.next HQ.out hS)).mono ?_)
      rintro e w' ⟨rfl, hb⟩
      exact ⟨_, rfl, rfl, hb⟩
    refine Obs.cons (fun u w hS hd => ?_) ?_
    · have d38 : u 38 = .bool true := dep hd 3 rfl
      rw [d38]
      have d44 : u 44 = .int .i64 (n : Int) := dep hd 9 rfl
      rw [d44]
      have d46 : u 46 = .int .i64 (l2 : Int) := dep hd 11 rfl
      rw [d46]
      exact Gv.run (.int .i64 (m2 : Int)) (by rfl) (by go_simp) rfl
    refine Obs.cons (fun u w hS hd => ?_) ?_
    · have d38 : u 38 = .bool true := dep hd 3 rfl
      rw [d38]
      obtain ⟨A42, c42, d42, g42⟩ : (Know.byt b).ok (u 42) w := dep hd 7 rfl
      rw [HNB.out] at d42
      rw [d42]
      have d47 : u 47 = .int .i64 (m2 : Int) := dep hd 12 rfl
      rw [d47]
      have hT2 := g42.cut0 (n := m2) (by rw [HNB.out]; exact HM2.out.1)
      exact Gv.run (.slice (subA A42 c42 0) m2 c42) (by rfl) (slice_op_hi0 rfl rfl rfl (Nat.le_trans HM2.out.1 (by have := g42.cap; rw [HNB.out] at this; exact this))) ⟨_, _, by rw [HM2.out.2.2], hT2⟩
    refine Obs.cons (fun u w hS hd => ?_) ?_
    · have d38 : u 38 = .bool true := dep hd 3 rfl
      rw [d38]
      obtain ⟨A48, c48, d48, g48⟩ : (Know.byt (b.take m2)).ok (u 48) w := dep hd 13 rfl
      rw [HM2.out.2.2] at d48
      rw [d48]
      exact Gv.run (.string ⟨(b.take m2).toArray⟩) rfl (run_conv rfl rfl (str13 w HM2.out.2.2 g48)) rfl
    refine Obs.cons (fun u w hS hd => ?_) ?_
    · have d38 : u 38 = .bool true := dep hd 3 rfl
      rw [d38]
      have d41 : u 41 = .string ⟨(b.take m2).toArray⟩ := dep hd 6 rfl
      rw [d41]
      have d49 : u 49 = .string ⟨(b.take m2).toArray⟩ := dep hd 14 rfl
      rw [d49]
      exact Gv.run (.bool false) rfl (by go_simp) rfl
    exact Obs.nil
  intro u v4 hS hd
  have d50 : u 50 = .bool false := hd 15 (by decide)
  have d38 : u 38 = .bool true := hd 3 (by decide)
  rw [d50, d38]
  replace r0 := r0.keep (hS.mono hc.size)
  replace hc := hc.trans (hS.mono hc.size)
  clear hd d50 d38 hS HQ HR0 HR5
  simp only [List.drop_succ_cons, List.drop_zero]
  go_wp2_with fail
  go_at_call 16
  refine (awake13 K v4).mono ?_
  rintro z v9 ⟨rfl, h0⟩
  have HC := Lib.hid (hc.trans (h0.mono hc.size))
  clear h0 hc r0
  go_wp2_with fail
  go_ret
  exact ⟨rfl, HC.out⟩
set_option maxHeartbeats 6400000 in
theorem form_10 {A0 : Option Addr} {c0 : Nat} {b rs1 rs2 s : List UInt8} {x : Nat} {e2 : Int} (hN1 : numR b 0 0 1099511627776 = (rs1, 0, x)) (hN2 : textR b 0 (b.length : Int) = (rs2, e2, s))  (he2 : e2 ≠ 0) (hl : b.length ≤ 140737488351232) (w : World) (r0 : Rd w w.heap.size A0 c0 b) :
    Calls Try.prog 6 #[.slice A0 b.length c0] w fun e w' => e = .returned (.bool true) ∧ Below w.heap.size w w' := by
  have F1 := form_num hN1
  have g2 : (e2 == 0) = false := by simp [he2]
  have hsl : s.length ≤ b.length := by
    have := textR_len (bs := b) 0 (b.length : Int)
    rw [hN2] at this
    exact this
  obtain ⟨n, en⟩ : ∃ n, n = b.length := ⟨_, rfl⟩
  rw [← en] at hl hN2 hsl ⊢
  rw [← en] at F1
  have HNB := Lib.hid en.symm
  have HLN := Lib.hid hl
  obtain ⟨k, ek⟩ : ∃ k, k = s.length := ⟨_, rfl⟩
  have HSK := Lib.hid ek.symm
  have HKL := Lib.hid (show k ≤ 140737488355320 by omega)
  obtain ⟨l1, el1⟩ : ∃ l, l = rs1.length := ⟨_, rfl⟩
  obtain ⟨m1, em1⟩ : ∃ m, m = n - l1 := ⟨_, rfl⟩
  rw [← el1, ← em1] at F1
  have w1 : IntKind.i64.wrap ((n : Int) - (l1 : Int)) = (m1 : Int) := by have := F1.1; rw [IntKind.wrap_i64]; omega
  have HRS1 := Lib.hid el1.symm
  have HM1 := Lib.hid (And.intro (show m1 ≤ n by omega) (And.intro F1.2.1 F1.2.2.1))
  clear el1 em1 F1
  have HN1 := Lib.hid hN1
  have HN2 := Lib.hid hN2
  have hc := Below.refl w.heap.size w
  have K' := Lib.hid K
  clear hN1 hN2 en ek hl hsl he2
  obtain ⟨v0, ev⟩ : ∃ v, v = w := ⟨_, rfl⟩
  rw [show Calls Try.prog 6 #[.slice A0 n c0] w = Calls Try.prog 6 #[.slice A0 n c0] v0 by rw [ev]]
  replace hc : Below w.heap.size w v0 := by rw [ev]; exact hc
  replace r0 : Rd v0 w.heap.size A0 c0 b := by rw [ev]; exact r0
  clear ev
  go_enter Try.func6, Try.ntmps6
  go_wp2_with fail
  go_at_call 9
  refine (own13_len HNB.out v0 r0 hc.size (by have := HLN.out; omega)).mono ?_
  rintro z v1 ⟨A1, c1, rfl, o1, h0⟩
  have r1 := o1.rd
  replace r0 := r0.keep (h0.mono hc.size)
  have hB1 := Nat.le_trans hc.size h0.size
  replace hc := hc.trans (h0.mono hc.size)
  clear h0 o1
  go_wp2_with fail
  go_at_call 17
  refine (wc_read K HNB.out v1 r1 (by have := HLN.out; omega)).mono ?_
  rintro z v2 ⟨p, rfl, q2, h0⟩
  replace r0 := r0.keep (h0.mono hc.size)
  replace hc := hc.trans (h0.mono hc.size)
  clear h0 r1
  have HK := Lib.hid (K.number 0 1099511627776 v2 q2)
  rw [HN1.out] at HK
  go_wp2_with fail
  go_at_call 24
  refine HK.out.mono ?_
  rintro z v3 ⟨rfl, q3, h0⟩
  have hb0 := h0.low (Nat.le_trans (K.le q2).1 (K.le q2).2) hB1
  replace r0 := r0.keep hb0
  replace hc := hc.trans hb0
  clear h0 hb0 q2 hB1 HK
  have HQ := Lib.hid q3
  have HR0 := Lib.hid (fun wz (hz : Below v3.heap.size v3 wz) => (r0.keep (hz.mono hc.size)).mono (Nat.le_trans hc.size hz.size))
  clear q3
  go_upto_region 3 with fail
  refine wp_region_inv 16 [11, 12, 13, 14, 15, 16, 17, 18, 19, 20, 21, 22, 23, 24, 25, 26] [.val (p), .val (.int .i64 0), .val (.bool true), .val (.bool true), .val (.int .i64 (x : Int)), .byt (b.take m1), .val (.string ⟨(b.take m1).toArray⟩), .byt b, .byt b, .val (.int .i64 (n : Int)), .val (p), .val (.int .i64 (l1 : Int)), .val (.int .i64 (m1 : Int)), .byt (b.take m1), .val (.string ⟨(b.take m1).toArray⟩), .val (.bool false)] (fun wz => Below v3.heap.size v3 wz) (by kernel_rfl) (by kernel_rfl) (fun wz wz' hz hb => hz.trans (hb.mono hz.size)) ((Below.refl _ _).drew) (fun u => by simp only [puts, List.foldl_cons, List.foldl_nil]; go_simp; exact rfl) ?_ ?_
  · simp only [List.take_succ_cons, List.take_zero]
    refine Obs.cons (fun u w hS hd => ?_) ?_
    · exact Gv.run (p) rfl (by go_simp) rfl
    refine Obs.cons (fun u w hS hd => ?_) ?_
    · have d11 : u 11 = p := dep hd 0 rfl
      rw [d11]
      refine Gv.call 20 #[p] rfl (by go_simp) ((wc_err K w (K.next HQ.out hS)).mono ?_)
      rintro e w' ⟨rfl, hb⟩
      exact ⟨_, rfl, rfl, hb⟩
    refine Obs.cons (fun u w hS hd => ?_) ?_
    · have d12 : u 12 = .int .i64 0 := dep hd 1 rfl
      rw [d12]
      exact Gv.run (.bool true) rfl (by go_simp) rfl
    refine Obs.cons (fun u w hS hd => ?_) ?_
    · have d13 : u 13 = .bool true := dep hd 2 rfl
      rw [d13]
      exact Gv.run (.bool true) rfl (by go_simp) rfl
    refine Obs.cons (fun u w hS hd => ?_) ?_
    · have d14 : u 14 = .bool true := dep hd 3 rfl
      rw [d14]
      exact Gv.run (.int .i64 (x : Int)) rfl (by go_simp) rfl
    refine Obs.cons (fun u w hS hd => ?_) ?_
    · have d14 : u 14 = .bool true := dep hd 3 rfl
      rw [d14]
      have d15 : u 15 = .int .i64 (x : Int) := dep hd 4 rfl
      rw [d15]
      refine Gv.call 10 #[.slice none 0 0, .int .i64 (x : Int)] rfl (by go_simp) ((wc_put K HM1.out.2.1 HM1.out.2.2 w).mono ?_)
      rintro e w' ⟨A, c, rfl, R, hb⟩
      exact ⟨_, rfl, ⟨A, c, by rw [HM1.out.2.2], R⟩, hb⟩
    refine Obs.cons (fun u w hS hd => ?_) ?_
    · have d14 : u 14 = .bool true := dep hd 3 rfl
      rw [d14]
      obtain ⟨A16, c16, d16, g16⟩ : (Know.byt (b.take m1)).ok (u 16) w := dep hd 5 rfl
      rw [HM1.out.2.2] at d16
      rw [d16]
      exact Gv.run (.string ⟨(b.take m1).toArray⟩) rfl (run_conv rfl rfl (str13 w HM1.out.2.2 g16)) rfl
    refine Obs.cons (fun u w hS hd => ?_) ?_
    · have d14 : u 14 = .bool true := dep hd 3 rfl
      rw [d14]
      exact Gv.run (.slice A0 n c0) rfl (by go_simp) (⟨_, _, by rw [HNB.out], HR0.out w hS⟩)
    refine Obs.cons (fun u w hS hd => ?_) ?_
    · have d14 : u 14 = .bool true := dep hd 3 rfl
      rw [d14]
      exact Gv.run (.slice A0 n c0) rfl (by go_simp) (⟨_, _, by rw [HNB.out], HR0.out w hS⟩)
    refine Obs.cons (fun u w hS hd => ?_) ?_
    · have d14 : u 14 = .bool true := dep hd 3 rfl
      rw [d14]
      obtain ⟨A19, c19, d19, g19⟩ : (Know.byt b).ok (u 19) w := dep hd 8 rfl
      rw [HNB.out] at d19
      rw [d19]
      exact Gv.run (.int .i64 (n : Int)) (by rfl) (by go_simp) rfl
    refine Obs.cons (fun u w hS hd => ?_) ?_
    · have d14 : u 14 = .bool true := dep hd 3 rfl
      rw [d14]
      exact Gv.run (p) rfl (by go_simp) rfl
    refine Obs.cons (fun u w hS hd => ?_) ?_
    · have d14 : u 14 = .bool true := dep hd 3 rfl
      rw [d14]
      have d21 : u 21 = p := dep hd 10 rfl
      rw [d21]
      refine Gv.call 21 #[p] rfl (by go_simp) ((wc_left K HRS1.out w (K.next HQ.out hS)).mono ?_)
      rintro e w' ⟨rfl, hb⟩
      exact ⟨_, rfl, rfl, hb⟩
    refine Obs.cons (fun u w hS hd => ?_) ?_
    · have d14 : u 14 = .bool true := dep hd 3 rfl
      rw [d14]
      have d20 : u 20 = .int .i64 (n : Int) := dep hd 9 rfl
      rw [d20]
      have d22 : u 22 = .int .i64 (l1 : Int) := dep hd 11 rfl
      rw [d22]
      exact Gv.run (.int .i64 (m1 : Int)) (by rfl) (by go_simp) rfl
    refine Obs.cons (fun u w hS hd => ?_) ?_
    · have d14 : u 14 = .bool true := dep hd 3 rfl
      rw [d14]
      obtain ⟨A18, c18, d18, g18⟩ : (Know.byt b).ok (u 18) w := dep hd 7 rfl
      rw [HNB.out] at d18
      rw [d18]
      have d23 : u 23 = .int .i64 (m1 : Int) := dep hd 12 rfl
      rw [d23]
      have hT2 := g18.cut0 (n := m1) (by rw [HNB.out]; exact HM1.out.1)
      exact Gv.run (.slice (subA A18 c18 0) m1 c18) (by rfl) (slice_op_hi0 rfl rfl rfl (Nat.le_trans HM1.out.1 (by have := g18.cap; rw [HNB.out] at this; exact this))) ⟨_, _, by rw [HM1.out.2.2], hT2⟩
    refine Obs.cons (fun u w hS hd => ?_) ?_
    · have d14 : u 14 = .bool true := dep hd 3 rfl
      rw [d14]
      obtain ⟨A24, c24, d24, g24⟩ : (Know.byt (b.take m1)).ok (u 24) w := dep hd 13 rfl
      rw [HM1.out.2.2] at d24
      rw [d24]
      exact Gv.run (.string ⟨(b.take m1).toArray⟩) rfl (run_conv rfl rfl (str13 w HM1.out.2.2 g24)) rfl
    refine Obs.cons (fun u w hS hd => ?_) ?_
    · have d14 : u 14 = .bool true := dep hd 3 rfl
      rw [d14]
      have d17 : u 17 = .string ⟨(b.take m1).toArray⟩ := dep hd 6 rfl
      rw [d17]
      have d25 : u 25 = .string ⟨(b.take m1).toArray⟩ := dep hd 14 rfl
      rw [d25]
      exact Gv.run (.bool false) rfl (by go_simp) rfl
    exact Obs.nil
  intro u v4 hS hd
  have d26 : u 26 = .bool false := hd 15 (by decide)
  have d14 : u 14 = .bool true := hd 3 (by decide)
  rw [d26, d14]
  replace r0 := r0.keep (hS.mono hc.size)
  replace hc := hc.trans (hS.mono hc.size)
  clear hd d26 d14 hS HQ HR0
  simp only [List.drop_succ_cons, List.drop_zero]
  clear HN1 HRS1 HM1
  obtain ⟨v0, ev⟩ : ∃ v, v = v4 := ⟨_, rfl⟩
  rw [← ev] at r0 hc ⊢
  clear ev
  go_wp2_with fail
  go_at_call 9
  refine (own13_len HNB.out v0 r0 hc.size (by have := HLN.out; omega)).mono ?_
  rintro z v1 ⟨A1, c1, rfl, o1, h0⟩
  have r1 := o1.rd
  replace r0 := r0.keep (h0.mono hc.size)
  have hB1 := Nat.le_trans hc.size h0.size
  replace hc := hc.trans (h0.mono hc.size)
  clear h0 o1
  go_wp2_with fail
  go_at_call 17
  refine (wc_read K HNB.out v1 r1 (by have := HLN.out; omega)).mono ?_
  rintro z v2 ⟨p, rfl, q2, h0⟩
  replace r0 := r0.keep (h0.mono hc.size)
  replace hc := hc.trans (h0.mono hc.size)
  clear h0 r1
  have HK := Lib.hid (K.text (n : Int) v2 q2)
  rw [HN2.out] at HK
  simp only at HK
  rw [HSK.out] at HK
  go_wp2_with fail
  go_at_call 25
  refine HK.out.mono ?_
  rintro z v3 ⟨A5, c5, rfl, r5, _, q3, h0⟩
  have HR5 := Lib.hid (fun wz (hz : Below v3.heap.size v3 wz) => (r5.keep hz).mono hz.size)
  clear r5
  have hb0 := h0.low (Nat.le_trans (K.le q2).1 (K.le q2).2) hB1
  replace r0 := r0.keep hb0
  replace hc := hc.trans hb0
  clear h0 hb0 q2 hB1 HK
  have HQ := Lib.hid q3
  have HR0 := Lib.hid (fun wz (hz : Below v3.heap.size v3 wz) => (r0.keep (hz.mono hc.size)).mono (Nat.le_trans hc.size hz.size))
  clear q3
  go_upto_region 7 with fail
  refine wp_region_inv 16 [35, 36, 37, 38, 39, 40, 41, 42, 43, 44, 45, 46, 47, 48, 49, 50] [.val (p), .val (.int .i64 e2), .val (.bool false), .val (.bool false), .val (undef), .val (undef), .val (undef), .val (undef), .val (undef), .val (undef), .val (undef), .val (undef), .val (undef), .val (undef), .val (undef), .val (undef)] (fun wz => Below v3.heap.size v3 wz) (by kernel_rfl) (by kernel_rfl) (fun wz wz' hz hb => hz.trans (hb.mono hz.size)) ((Below.refl _ _).drew) (fun u => by simp only [puts, List.foldl_cons, List.foldl_nil]; go_simp; exact rfl) ?_ ?_
  · simp only [List.take_succ_cons, List.take_zero]
    refine Obs.cons (fun u w hS hd => ?_) ?_
    · exact Gv.run (p) rfl (by go_simp) rfl
    refine Obs.cons (fun u w hS hd => ?_) ?_
    · have d35 : u 35 = p := dep hd 0 rfl
      rw [d35]
      refine Gv.call 20 #[p] rfl (by go_simp) ((wc_err K w (K.next HQ.out hS)).mono ?_)
      rintro e w' ⟨rfl, hb⟩
      exact ⟨_, rfl, rfl, hb⟩
    refine Obs.cons (fun u w hS hd => ?_) ?_
    · have d36 : u 36 = .int .i64 e2 := dep hd 1 rfl
      rw [d36]
      exact Gv.run (.bool false) rfl (by go_simp) rfl
    refine Obs.cons (fun u w hS hd => ?_) ?_
    · have d37 : u 37 = .bool false := dep hd 2 rfl
      rw [d37]
      exact Gv.run (.bool false) rfl (by go_simp) rfl
    refine Obs.cons (fun u w hS hd => ?_) ?_
    · have d38 : u 38 = .bool false := dep hd 3 rfl
      rw [d38]
      exact Gv.skip (by rfl) rfl
    refine Obs.cons (fun u w hS hd => ?_) ?_
    · have d38 : u 38 = .bool false := dep hd 3 rfl
      rw [d38]
      exact Gv.skip (by rfl) rfl
    refine Obs.cons (fun u w hS hd => ?_) ?_
    · have d38 : u 38 = .bool false := dep hd 3 rfl
      rw [d38]
      exact Gv.skip (by rfl) rfl
    refine Obs.cons (fun u w hS hd => ?_) ?_
    · have d38 : u 38 = .bool false := dep hd 3 rfl
      rw [d38]
      exact Gv.skip (by rfl) rfl
    refine Obs.cons (fun u w hS hd => ?_) ?_
    · have d38 : u 38 = .bool false := dep hd 3 rfl
      rw [d38]
      exact Gv.skip (by rfl) rfl
    refine Obs.cons (fun u w hS hd => ?_) ?_
    · have d38 : u 38 = .bool false := dep hd 3 rfl
      rw [d38]
      exact Gv.skip (by rfl) rfl
    refine Obs.cons (fun u w hS hd => ?_) ?_
    · have d38 : u 38 = .bool false := dep hd 3 rfl
      rw [d38]
      exact Gv.skip (by rfl) rfl
    refine Obs.cons (fun u w hS hd => ?_) ?_
    · have d38 : u 38 = .bool false := dep hd 3 rfl
      rw [d38]
      exact Gv.skip (by rfl) rfl
    refine Obs.cons (fun u w hS hd => ?_) ?_
    · have d38 : u 38 = .bool false := dep hd 3 rfl
      rw [d38]
      exact Gv.skip (by rfl) rfl
    refine Obs.cons (fun u w hS hd => ?_) ?_
    · have d38 : u 38 = .bool false := dep hd 3 rfl
      rw [d38]
      exact Gv.skip (by rfl) rfl
    refine Obs.cons (fun u w hS hd => ?_) ?_
    · have d38 : u 38 = .bool false := dep hd 3 rfl
      rw [d38]
      exact Gv.skip (by rfl) rfl
    refine Obs.cons (fun u w hS hd => ?_) ?_
    · have d38 : u 38 = .bool false := dep hd 3 rfl
      rw [d38]
      exact Gv.skip (by rfl) rfl
    exact Obs.nil
  intro u v4 hS hd
  have d50 : u 50 = undef := hd 15 (by decide)
  have d38 : u 38 = .bool false := hd 3 (by decide)
  rw [d50, d38]
  replace r0 := r0.keep (hS.mono hc.size)
  replace hc := hc.trans (hS.mono hc.size)
  clear hd d50 d38 hS HQ HR0 HR5
  simp only [List.drop_succ_cons, List.drop_zero]
  go_wp2_with fail
  go_at_call 16
  refine (awake13 K v4).mono ?_
  rintro z v9 ⟨rfl, h0⟩
  have HC := Lib.hid (hc.trans (h0.mono hc.size))
  clear h0 hc r0
  go_wp2_with fail
  go_ret
  exact ⟨rfl, HC.out⟩
set_option maxHeartbeats 6400000 in
theorem form_01 {A0 : Option Addr} {c0 : Nat} {b rs1 rs2 s : List UInt8} {x : Nat} {e1 : Int} (hN1 : numR b 0 0 1099511627776 = (rs1, e1, x)) (hN2 : textR b 0 (b.length : Int) = (rs2, 0, s)) (he1 : e1 ≠ 0)  (hl : b.length ≤ 140737488351232) (w : World) (r0 : Rd w w.heap.size A0 c0 b) :
    Calls Try.prog 6 #[.slice A0 b.length c0] w fun e w' => e = .returned (.bool true) ∧ Below w.heap.size w w' := by
  have g1 : (e1 == 0) = false := by simp [he1]
  have F2 := form_text hN2
  have hsl : s.length ≤ b.length := by
    have := textR_len (bs := b) 0 (b.length : Int)
    rw [hN2] at this
    exact this
  obtain ⟨n, en⟩ : ∃ n, n = b.length := ⟨_, rfl⟩
  rw [← en] at hl hN2 hsl ⊢
  rw [← en] at F2
  have HNB := Lib.hid en.symm
  have HLN := Lib.hid hl
  obtain ⟨k, ek⟩ : ∃ k, k = s.length := ⟨_, rfl⟩
  have HSK := Lib.hid ek.symm
  have HKL := Lib.hid (show k ≤ 140737488355320 by omega)
  obtain ⟨l2, el2⟩ : ∃ l, l = rs2.length := ⟨_, rfl⟩
  obtain ⟨m2, em2⟩ : ∃ m, m = n - l2 := ⟨_, rfl⟩
  rw [← el2, ← em2] at F2
  have w2 : IntKind.i64.wrap ((n : Int) - (l2 : Int)) = (m2 : Int) := by have := F2.1; rw [IntKind.wrap_i64]; omega
  have HRS2 := Lib.hid el2.symm
  have HM2 := Lib.hid (And.intro (show m2 ≤ n by omega) (And.intro F2.2.1 F2.2.2.1))
  clear el2 em2 F2
  have HN1 := Lib.hid hN1
  have HN2 := Lib.hid hN2
  have hc := Below.refl w.heap.size w
  have K' := Lib.hid K
  clear hN1 hN2 en ek hl hsl he1
  obtain ⟨v0, ev⟩ : ∃ v, v = w := ⟨_, rfl⟩
  rw [show Calls Try.prog 6 #[.slice A0 n c0] w = Calls Try.prog 6 #[.slice A0 n c0] v0 by rw [ev]]
  replace hc : Below w.heap.size w v0 := by rw [ev]; exact hc
  replace r0 : Rd v0 w.heap.size A0 c0 b := by rw [ev]; exact r0
  clear ev
  go_enter Try.func6, Try.ntmps6
  go_wp2_with fail
  go_at_call 9
  refine (own13_len HNB.out v0 r0 hc.size (by have := HLN.out; omega)).mono ?_
  rintro z v1 ⟨A1, c1, rfl, o1, h0⟩
  have r1 := o1.rd
  replace r0 := r0.keep (h0.mono hc.size)
  have hB1 := Nat.le_trans hc.size h0.size
  replace hc := hc.trans (h0.mono hc.size)
  clear h0 o1
  go_wp2_with fail
  go_at_call 17
  refine (wc_read K HNB.out v1 r1 (by have := HLN.out; omega)).mono ?_
  rintro z v2 ⟨p, rfl, q2, h0⟩
  replace r0 := r0.keep (h0.mono hc.size)
  replace hc := hc.trans (h0.mono hc.size)
  clear h0 r1
  have HK := Lib.hid (K.number 0 1099511627776 v2 q2)
  rw [HN1.out] at HK
  go_wp2_with fail
  go_at_call 24
  refine HK.out.mono ?_
  rintro z v3 ⟨rfl, q3, h0⟩
  have hb0 := h0.low (Nat.le_trans (K.le q2).1 (K.le q2).2) hB1
  replace r0 := r0.keep hb0
  replace hc := hc.trans hb0
  clear h0 hb0 q2 hB1 HK
  have HQ := Lib.hid q3
  have HR0 := Lib.hid (fun wz (hz : Below v3.heap.size v3 wz) => (r0.keep (hz.mono hc.size)).mono (Nat.le_trans hc.size hz.size))
  clear q3
  go_upto_region 3 with fail
  refine wp_region_inv 16 [11, 12, 13, 14, 15, 16, 17, 18, 19, 20, 21, 22, 23, 24, 25, 26] [.val (p), .val (.int .i64 e1), .val (.bool false), .val (.bool false), .val (undef), .val (undef), .val (undef), .val (undef), .val (undef), .val (undef), .val (undef), .val (undef), .val (undef), .val (undef), .val (undef), .val (undef)] (fun wz => Below v3.heap.size v3 wz) (by kernel_rfl) (by kernel_rfl) (fun wz wz' hz hb => hz.trans (hb.mono hz.size)) ((Below.refl _ _).drew) (fun u => by simp only [puts, List.foldl_cons, List.foldl_nil]; go_simp; exact rfl) ?_ ?_
  · simp only [List.take_succ_cons, List.take_zero]
    refine Obs.cons (fun u w hS hd => ?_) ?_
    · exact Gv.run (p) rfl (by go_simp) rfl
    refine Obs.cons (fun u w hS hd => ?_) ?_
    · have d11 : u 11 = p := dep hd 0 rfl
      rw [d11]
      refine Gv.call 20 #[p] rfl (by go_simp) ((wc_err K w (K.next HQ.out hS)).mono ?_)
      rintro e w' ⟨rfl, hb⟩
      exact ⟨_, rfl, rfl, hb⟩
    refine Obs.cons (fun u w hS hd => ?_) ?_
    · have d12 : u 12 = .int .i64 e1 := dep hd 1 rfl
      rw [d12]
      exact Gv.run (.bool false) rfl (by go_simp) rfl
    refine Obs.cons (fun u w hS hd => ?_) ?_
    · have d13 : u 13 = .bool false := dep hd 2 rfl
      rw [d13]
      exact Gv.run (.bool false) rfl (by go_simp) rfl
    refine Obs.cons (fun u w hS hd => ?_) ?_
    · have d14 : u 14 = .bool false := dep hd 3 rfl
      rw [d14]
      exact Gv.skip (by rfl) rfl
    refine Obs.cons (fun u w hS hd => ?_) ?_
    · have d14 : u 14 = .bool false := dep hd 3 rfl
      rw [d14]
      exact Gv.skip (by rfl) rfl
    refine Obs.cons (fun u w hS hd => ?_) ?_
    · have d14 : u 14 = .bool false := dep hd 3 rfl
      rw [d14]
      exact Gv.skip (by rfl) rfl
    refine Obs.cons (fun u w hS hd => ?_) ?_
    · have d14 : u 14 = .bool false := dep hd 3 rfl
      rw [d14]
      exact Gv.skip (by rfl) rfl
    refine Obs.cons (fun u w hS hd => ?_) ?_
    · have d14 : u 14 = .bool false := dep hd 3 rfl
      rw [d14]
      exact Gv.skip (by rfl) rfl
    refine Obs.cons (fun u w hS hd => ?_) ?_
    · have d14 : u 14 = .bool false := dep hd 3 rfl
      rw [d14]
      exact Gv.skip (by rfl) rfl
    refine Obs.cons (fun u w hS hd => ?_) ?_
    · have d14 : u 14 = .bool false := dep hd 3 rfl
      rw [d14]
      exact Gv.skip (by rfl) rfl
    refine Obs.cons (fun u w hS hd => ?_) ?_
    · have d14 : u 14 = .bool false := dep hd 3 rfl
      rw [d14]
      exact Gv.skip (by rfl) rfl
    refine Obs.cons (fun u w hS hd => ?_) ?_
    · have d14 : u 14 = .bool false := dep hd 3 rfl
      rw [d14]
      exact Gv.skip (by rfl) rfl
    refine Obs.cons (fun u w hS hd => ?_) ?_
    · have d14 : u 14 = .bool false := dep hd 3 rfl
      rw [d14]
      exact Gv.skip (by rfl) rfl
    refine Obs.cons (fun u w hS hd => ?_) ?_
    · have d14 : u 14 = .bool false := dep hd 3 rfl
      rw [d14]
      exact Gv.skip (by rfl) rfl
    refine Obs.cons (fun u w hS hd => ?_) ?_
    · have d14 : u 14 = .bool false := dep hd 3 rfl
      rw [d14]
      exact Gv.skip (by rfl) rfl
    exact Obs.nil
  intro u v4 hS hd
  have d26 : u 26 = undef := hd 15 (by decide)
  have d14 : u 14 = .bool false := hd 3 (by decide)
  rw [d26, d14]
  replace r0 := r0.keep (hS.mono hc.size)
  replace hc := hc.trans (hS.mono hc.size)
  clear hd d26 d14 hS HQ HR0
  simp only [List.drop_succ_cons, List.drop_zero]
  clear HN1
  obtain ⟨v0, ev⟩ : ∃ v, v = v4 := ⟨_, rfl⟩
  rw [← ev] at r0 hc ⊢
  clear ev
  go_wp2_with fail
  go_at_call 9
  refine (own13_len HNB.out v0 r0 hc.size (by have := HLN.out; omega)).mono ?_
  rintro z v1 ⟨A1, c1, rfl, o1, h0⟩
  have r1 := o1.rd
  replace r0 := r0.keep (h0.mono hc.size)
  have hB1 := Nat.le_trans hc.size h0.size
  replace hc := hc.trans (h0.mono hc.size)
  clear h0 o1
  go_wp2_with fail
  go_at_call 17
  refine (wc_read K HNB.out v1 r1 (by have := HLN.out; omega)).mono ?_
  rintro z v2 ⟨p, rfl, q2, h0⟩
  replace r0 := r0.keep (h0.mono hc.size)
  replace hc := hc.trans (h0.mono hc.size)
  clear h0 r1
  have HK := Lib.hid (K.text (n : Int) v2 q2)
  rw [HN2.out] at HK
  simp only at HK
  rw [HSK.out] at HK
  go_wp2_with fail
  go_at_call 25
  refine HK.out.mono ?_
  rintro z v3 ⟨A5, c5, rfl, r5, _, q3, h0⟩
  have HR5 := Lib.hid (fun wz (hz : Below v3.heap.size v3 wz) => (r5.keep hz).mono hz.size)
  clear r5
  have hb0 := h0.low (Nat.le_trans (K.le q2).1 (K.le q2).2) hB1
  replace r0 := r0.keep hb0
  replace hc := hc.trans hb0
  clear h0 hb0 q2 hB1 HK
  have HQ := Lib.hid q3
  have HR0 := Lib.hid (fun wz (hz : Below v3.heap.size v3 wz) => (r0.keep (hz.mono hc.size)).mono (Nat.le_trans hc.size hz.size))
  clear q3
  go_upto_region 7 with fail
  refine wp_region_inv 16 [35, 36, 37, 38, 39, 40, 41, 42, 43, 44, 45, 46, 47, 48, 49, 50] [.val (p), .val (.int .i64 0), .val (.bool true), .val (.bool true), .byt s, .byt (b.take m2), .val (.string ⟨(b.take m2).toArray⟩), .byt b, .byt b, .val (.int .i64 (n : Int)), .val (p), .val (.int .i64 (l2 : Int)), .val (.int .i64 (m2 : Int)), .byt (b.take m2), .val (.string ⟨(b.take m2).toArray⟩), .val (.bool false)] (fun wz => Below v3.heap.size v3 wz) (by kernel_rfl) (by kernel_rfl) (fun wz wz' hz hb => hz.trans (hb.mono hz.size)) ((Below.refl _ _).drew) (fun u => by simp only [puts, List.foldl_cons, List.foldl_nil]; go_simp; exact rfl) ?_ ?_
  · simp only [List.take_succ_cons, List.take_zero]
    refine Obs.cons (fun u w hS hd => ?_) ?_
    · exact Gv.run (p) rfl (by go_simp) rfl
    refine Obs.cons (fun u w hS hd => ?_) ?_
    · have d35 : u 35 = p := dep hd 0 rfl
      rw [d35]
      refine Gv.call 20 #[p] rfl (by go_simp) ((wc_err K w (K.next HQ.out hS)).mono ?_)
      rintro e w' ⟨rfl, hb⟩
      exact ⟨_, rfl, rfl, hb⟩
    refine Obs.cons (fun u w hS hd => ?_) ?_
    · have d36 : u 36 = .int .i64 0 := dep hd 1 rfl
      rw [d36]
      exact Gv.run (.bool true) rfl (by go_simp) rfl
    refine Obs.cons (fun u w hS hd => ?_) ?_
    · have d37 : u 37 = .bool true := dep hd 2 rfl
      rw [d37]
      exact Gv.run (.bool true) rfl (by go_simp) rfl
    refine Obs.cons (fun u w hS hd => ?_) ?_
    · have d38 : u 38 = .bool true := dep hd 3 rfl
      rw [d38]
      exact Gv.run (.slice A5 k c5) rfl (by go_simp) (⟨_, _, by rw [HSK.out], HR5.out w hS⟩)
    refine Obs.cons (fun u w hS hd => ?_) ?_
    · have d38 : u 38 = .bool true := dep hd 3 rfl
      rw [d38]
      obtain ⟨A39, c39, d39, g39⟩ : (Know.byt s).ok (u 39) w := dep hd 4 rfl
      rw [HSK.out] at d39
      rw [d39]
      refine Gv.call 12 #[.slice none 0 0, .slice A39 k c39] rfl (by go_simp) ((wc_text K HM2.out.2.1 HM2.out.2.2 HSK.out HKL.out w g39).mono ?_)
      rintro e w' ⟨A, c, rfl, R, hb⟩
      exact ⟨_, rfl, ⟨A, c, by rw [HM2.out.2.2], R⟩, hb⟩
    refine Obs.cons (fun u w hS hd => ?_) ?_
    · have d38 : u 38 = .bool true := dep hd 3 rfl
      rw [d38]
      obtain ⟨A40, c40, d40, g40⟩ : (Know.byt (b.take m2)).ok (u 40) w := dep hd 5 rfl
      rw [HM2.out.2.2] at d40
      rw [d40]
      exact Gv.run (.string ⟨(b.take m2).toArray⟩) rfl (run_conv rfl rfl (str13 w HM2.out.2.2 g40)) rfl
    refine Obs.cons (fun u w hS hd => ?_) ?_
    · have d38 : u 38 = .bool true := dep hd 3 rfl
      rw [d38]
      exact Gv.run (.slice A0 n c0) rfl (by go_simp) (⟨_, _, by rw [HNB.out], HR0.out w hS⟩)
    refine Obs.cons (fun u w hS hd => ?_) ?_
    · have d38 : u 38 = .bool true := dep hd 3 rfl
      rw [d38]
      exact Gv.run (.slice A0 n c0) rfl (by go_simp) (⟨_, _, by rw [HNB.out], HR0.out w hS⟩)
    refine Obs.cons (fun u w hS hd => ?_) ?_
    · have d38 : u 38 = .bool true := dep hd 3 rfl
      rw [d38]
      obtain ⟨A43, c43, d43, g43⟩ : (Know.byt b).ok (u 43) w := dep hd 8 rfl
      rw [HNB.out] at d43
      rw [d43]
      exact Gv.run (.int .i64 (n : Int)) (by rfl) (by go_simp) rfl
    refine Obs.cons (fun u w hS hd => ?_) ?_
    · have d38 : u 38 = .bool true := dep hd 3 rfl
      rw [d38]
      exact Gv.run (p) rfl (by go_simp) rfl
    refine Obs.cons (fun u w hS hd => ?_) ?_
    · have d38 : u 38 = .bool true := dep hd 3 rfl
      rw [d38]
      have d45 : u 45 = p := dep hd 10 rfl
      rw [d45]
      refine Gv.call 21 #[p] rfl (by go_simp) ((wc_left K HRS2.out w (K.next HQ.out hS)).mono ?_)
      rintro e w' ⟨rfl, hb⟩
      exact ⟨_, rfl, rfl, hb⟩
    refine Obs.cons (fun u w hS hd => ?_) ?_
    · have d38 : u 38 = .bool true := dep hd 3 rfl
      rw [d38]
      have d44 : u 44 = .int .i64 (n : Int) := dep hd 9 rfl
      rw [d44]
      have d46 : u 46 = .int .i64 (l2 : Int) := dep hd 11 rfl
      rw [d46]
      exact Gv.run (.int .i64 (m2 : Int)) (by rfl) (by go_simp) rfl
    refine Obs.cons (fun u w hS hd => ?_) ?_
    · have d38 : u 38 = .bool true := dep hd 3 rfl
      rw [d38]
      obtain ⟨A42, c42, d42, g42⟩ : (Know.byt b).ok (u 42) w := dep hd 7 rfl
      rw [HNB.out] at d42
      rw [d42]
      have d47 : u 47 = .int .i64 (m2 : Int) := dep hd 12 rfl
      rw [d47]
      have hT2 := g42.cut0 (n := m2) (by rw [HNB.out]; exact HM2.out.1)
      exact Gv.run (.slice (subA A42 c42 0) m2 c42) (by rfl) (slice_op_hi0 rfl rfl rfl (Nat.le_trans HM2.out.1 (by have := g42.cap; rw [HNB.out] at this; exact this))) ⟨_, _, by rw [HM2.out.2.2], hT2⟩
    refine Obs.cons (fun u w hS hd => ?_) ?_
    · have d38 : u 38 = .bool true := dep hd 3 rfl
      rw [d38]
      obtain ⟨A48, c48, d48, g48⟩ : (Know.byt (b.take m2)).ok (u 48) w := dep hd 13 rfl
      rw [HM2.out.2.2] at d48
      rw [d48]
      exact Gv.run (.string ⟨(b.take m2).toArray⟩) rfl (run_conv rfl rfl (str13 w HM2.out.2.2 g48)) rfl
    refine Obs.cons (fun u w hS hd => ?_) ?_
    · have d38 : u 38 = .bool true := dep hd 3 rfl
      rw [d38]
      have d41 : u 41 = .string ⟨(b.take m2).toArray⟩ := dep hd 6 rfl
      rw [d41]
      have d49 : u 49 = .string ⟨(b.take m2).toArray⟩ := dep hd 14 rfl
      rw [d49]
      exact Gv.run (.bool false) rfl (by go_simp) rfl
    exact Obs.nil
  intro u v4 hS hd
  have d50 : u 50 = .bool false := hd 15 (by decide)
  have d38 : u 38 = .bool true := hd 3 (by decide)
  rw [d50, d38]
  replace r0 := r0.keep (hS.mono hc.size)
  replace hc := hc.trans (hS.mono hc.size)
  clear hd d50 d38 hS HQ HR0 HR5
  simp only [List.drop_succ_cons, List.drop_zero]
  go_wp2_with fail
  go_at_call 16
  refine (awake13 K v4).mono ?_
  rintro z v9 ⟨rfl, h0⟩
  have HC := Lib.hid (hc.trans (h0.mono hc.size))
  clear h0 hc r0
  go_wp2_with fail
  go_ret
  exact ⟨rfl, HC.out⟩
set_option maxHeartbeats 6400000 in
theorem form_00 {A0 : Option Addr} {c0 : Nat} {b rs1 rs2 s : List UInt8} {x : Nat} {e1 e2 : Int} (hN1 : numR b 0 0 1099511627776 = (rs1, e1, x)) (hN2 : textR b 0 (b.length : Int) = (rs2, e2, s)) (he1 : e1 ≠ 0) (he2 : e2 ≠ 0) (hl : b.length ≤ 140737488351232) (w : World) (r0 : Rd w w.heap.size A0 c0 b) :
    Calls Try.prog 6 #[.slice A0 b.length c0] w fun e w' => e = .returned (.bool true) ∧ Below w.heap.size w w' := by
  have g1 : (e1 == 0) = false := by simp [he1]
  have g2 : (e2 == 0) = false := by simp [he2]
  have hsl : s.length ≤ b.length := by
    have := textR_len (bs := b) 0 (b.length : Int)
    rw [hN2] at this
    exact this
  obtain ⟨n, en⟩ : ∃ n, n = b.length := ⟨_, rfl⟩
  rw [← en] at hl hN2 hsl ⊢
  have HNB := Lib.hid en.symm
  have HLN := Lib.hid hl
  obtain ⟨k, ek⟩ : ∃ k, k = s.length := ⟨_, rfl⟩
  have HSK := Lib.hid ek.symm
  have HKL := Lib.hid (show k ≤ 140737488355320 by omega)
  have HN1 := Lib.hid hN1
  have HN2 := Lib.hid hN2
  have hc := Below.refl w.heap.size w
  have K' := Lib.hid K
  clear hN1 hN2 en ek hl hsl he1 he2
  obtain ⟨v0, ev⟩ : ∃ v, v = w := ⟨_, rfl⟩
  rw [show Calls Try.prog 6 #[.slice A0 n c0] w = Calls Try.prog 6 #[.slice A0 n c0] v0 by rw [ev]]
  replace hc : Below w.heap.size w v0 := by rw [ev]; exact hc
  replace r0 : Rd v0 w.heap.size A0 c0 b := by rw [ev]; exact r0
  clear ev
  go_enter Try.func6, Try.ntmps6
  go_wp2_with fail
  go_at_call 9
  refine (own13_len HNB.out v0 r0 hc.size (by have := HLN.out; omega)).mono ?_
  rintro z v1 ⟨A1, c1, rfl, o1, h0⟩
  have r1 := o1.rd
  replace r0 := r0.keep (h0.mono hc.size)
  have hB1 := Nat.le_trans hc.size h0.size
  replace hc := hc.trans (h0.mono hc.size)
  clear h0 o1
  go_wp2_with fail
  go_at_call 17
  refine (wc_read K HNB.out v1 r1 (by have := HLN.out; omega)).mono ?_
  rintro z v2 ⟨p, rfl, q2, h0⟩
  replace r0 := r0.keep (h0.mono hc.size)
  replace hc := hc.trans (h0.mono hc.size)
  clear h0 r1
  have HK := Lib.hid (K.number 0 1099511627776 v2 q2)
  rw [HN1.out] at HK
  go_wp2_with fail
  go_at_call 24
  refine HK.out.mono ?_
  rintro z v3 ⟨rfl, q3, h0⟩
  have hb0 := h0.low (Nat.le_trans (K.le q2).1 (K.le q2).2) hB1
  replace r0 := r0.keep hb0
  replace hc := hc.trans hb0
  clear h0 hb0 q2 hB1 HK
  have HQ := Lib.hid q3
  have HR0 := Lib.hid (fun wz (hz : Below v3.heap.size v3 wz) => (r0.keep (hz.mono hc.size)).mono (Nat.le_trans hc.size hz.size))
  clear q3
  go_upto_region 3 with fail
  refine wp_region_inv 16 [11, 12, 13, 14, 15, 16, 17, 18, 19, 20, 21, 22, 23, 24, 25, 26] [.val (p), .val (.int .i64 e1), .val (.bool false), .val (.bool false), .val (undef), .val (undef), .val (undef), .val (undef), .val (undef), .val (undef), .val (undef), .val (undef), .val (undef), .val (undef), .val (undef), .val (undef)] (fun wz => Below v3.heap.size v3 wz) (by kernel_rfl) (by kernel_rfl) (fun wz wz' hz hb => hz.trans (hb.mono hz.size)) ((Below.refl _ _).drew) (fun u => by simp only [puts, List.foldl_cons, List.foldl_nil]; go_simp; exact rfl) ?_ ?_
  · simp only [List.take_succ_cons, List.take_zero]
    refine Obs.cons (fun u w hS hd => ?_) ?_
    · exact Gv.run (p) rfl (by go_simp) rfl
    refine Obs.cons (fun u w hS hd => ?_) ?_
    · have d11 : u 11 = p := dep hd 0 rfl
      rw [d11]
      refine Gv.call 20 #[p] rfl (by go_simp) ((wc_err K w (K.next HQ.out hS)).mono ?_)
      rintro e w' ⟨rfl, hb⟩
      exact ⟨_, rfl, rfl, hb⟩
    refine Obs.cons (fun u w hS hd => ?_) ?_
    · have d12 : u 12 = .int .i64 e1 := dep hd 1 rfl
      rw [d12]
      exact Gv.run (.bool false) rfl (by go_simp) rfl
    refine Obs.cons (fun u w hS hd => ?_) ?_
    · have d13 : u 13 = .bool false := dep hd 2 rfl
      rw [d13]
      exact Gv.run (.bool false) rfl (by go_simp) rfl
    refine Obs.cons (fun u w hS hd => ?_) ?_
    · have d14 : u 14 = .bool false := dep hd 3 rfl
      rw [d14]
      exact Gv.skip (by rfl) rfl
    refine Obs.cons (fun u w hS hd => ?_) ?_
    · have d14 : u 14 = .bool false := dep hd 3 rfl
      rw [d14]
      exact Gv.skip (by rfl) rfl
    refine Obs.cons (fun u w hS hd => ?_) ?_
    · have d14 : u 14 = .bool false := dep hd 3 rfl
      rw [d14]
      exact Gv.skip (by rfl) rfl
    refine Obs.cons (fun u w hS hd => ?_) ?_
    · have d14 : u 14 = .bool false := dep hd 3 rfl
      rw [d14]
      exact Gv.skip (by rfl) rfl
    refine Obs.cons (fun u w hS hd => ?_) ?_
    · have d14 : u 14 = .bool false := dep hd 3 rfl
      rw [d14]
      exact Gv.skip (by rfl) rfl
    refine Obs.cons (fun u w hS hd => ?_) ?_
    · have d14 : u 14 = .bool false := dep hd 3 rfl
      rw [d14]
      exact Gv.skip (by rfl) rfl
    refine Obs.cons (fun u w hS hd => ?_) ?_
    · have d14 : u 14 = .bool false := dep hd 3 rfl
      rw [d14]
      exact Gv.skip (by rfl) rfl
    refine Obs.cons (fun u w hS hd => ?_) ?_
    · have d14 : u 14 = .bool false := dep hd 3 rfl
      rw [d14]
      exact Gv.skip (by rfl) rfl
    refine Obs.cons (fun u w hS hd => ?_) ?_
    · have d14 : u 14 = .bool false := dep hd 3 rfl
      rw [d14]
      exact Gv.skip (by rfl) rfl
    refine Obs.cons (fun u w hS hd => ?_) ?_
    · have d14 : u 14 = .bool false := dep hd 3 rfl
      rw [d14]
      exact Gv.skip (by rfl) rfl
    refine Obs.cons (fun u w hS hd => ?_) ?_
    · have d14 : u 14 = .bool false := dep hd 3 rfl
      rw [d14]
      exact Gv.skip (by rfl) rfl
    refine Obs.cons (fun u w hS hd => ?_) ?_
    · have d14 : u 14 = .bool false := dep hd 3 rfl
      rw [d14]
      exact Gv.skip (by rfl) rfl
    exact Obs.nil
  intro u v4 hS hd
  have d26 : u 26 = undef := hd 15 (by decide)
  have d14 : u 14 = .bool false := hd 3 (by decide)
  rw [d26, d14]
  replace r0 := r0.keep (hS.mono hc.size)
  replace hc := hc.trans (hS.mono hc.size)
  clear hd d26 d14 hS HQ HR0
  simp only [List.drop_succ_cons, List.drop_zero]
  clear HN1
  obtain ⟨v0, ev⟩ : ∃ v, v = v4 := ⟨_, rfl⟩
  rw [← ev] at r0 hc ⊢
  clear ev
  go_wp2_with fail
  go_at_call 9
  refine (own13_len HNB.out v0 r0 hc.size (by have := HLN.out; omega)).mono ?_
  rintro z v1 ⟨A1, c1, rfl, o1, h0⟩
  have r1 := o1.rd
  replace r0 := r0.keep (h0.mono hc.size)
  have hB1 := Nat.le_trans hc.size h0.size
  replace hc := hc.trans (h0.mono hc.size)
  clear h0 o1
  go_wp2_with fail
  go_at_call 17
  refine (wc_read K HNB.out v1 r1 (by have := HLN.out; omega)).mono ?_
  rintro z v2 ⟨p, rfl, q2, h0⟩
  replace r0 := r0.keep (h0.mono hc.size)
  replace hc := hc.trans (h0.mono hc.size)
  clear h0 r1
  have HK := Lib.hid (K.text (n : Int) v2 q2)
  rw [HN2.out] at HK
  simp only at HK
  rw [HSK.out] at HK
  go_wp2_with fail
  go_at_call 25
  refine HK.out.mono ?_
  rintro z v3 ⟨A5, c5, rfl, r5, _, q3, h0⟩
  have HR5 := Lib.hid (fun wz (hz : Below v3.heap.size v3 wz) => (r5.keep hz).mono hz.size)
  clear r5
  have hb0 := h0.low (Nat.le_trans (K.le q2).1 (K.le q2).2) hB1
  replace r0 := r0.keep hb0
  replace hc := hc.trans hb0
  clear h0 hb0 q2 hB1 HK
  have HQ := Lib.hid q3
  have HR0 := Lib.hid (fun wz (hz : Below v3.heap.size v3 wz) => (r0.keep (hz.mono hc.size)).mono (Nat.le_trans hc.size hz.size))
  clear q3
  go_upto_region 7 with fail
  refine wp_region_inv 16 [35, 36, 37, 38, 39, 40, 41, 42, 43, 44, 45, 46, 47, 48, 49, 50] [.val (p), .val (.int .i64 e2), .val (.bool false), .val (.bool false), .val (undef), .val (undef), .val (undef), .val (undef), .val (undef), .val (undef), .val (undef), .val (undef), .val (undef), .val (undef), .val (undef), .val (undef)] (fun wz => Below v3.heap.size v3 wz) (by kernel_rfl) (by kernel_rfl) (fun wz wz' hz hb => hz.trans (hb.mono hz.size)) ((Below.refl _ _).drew) (fun u => by simp only [puts, List.foldl_cons, List.foldl_nil]; go_simp; exact rfl) ?_ ?_
  · simp only [List.take_succ_cons, List.take_zero]
    refine Obs.cons (fun u w hS hd => ?_) ?_
    · exact Gv.run (p) rfl (by go_simp) rfl
    refine Obs.cons (fun u w hS hd => ?_) ?_
    · have d35 : u 35 = p := dep hd 0 rfl
      rw [d35]
      refine Gv.call 20 #[p] rfl (by go_simp) ((wc_err K w (K.next HQ.out hS)).mono ?_)
      rintro e w' ⟨rfl, hb⟩
      exact ⟨_, rfl, rfl, hb⟩
    refine Obs.cons (fun u w hS hd => ?_) ?_
    · have d36 : u 36 = .int .i64 e2 := dep hd 1 rfl
      rw [d36]
      exact Gv.run (.bool false) rfl (by go_simp) rfl
    refine Obs.cons (fun u w hS hd => ?_) ?_
    · have d37 : u 37 = .bool false := dep hd 2 rfl
      rw [d37]
      exact Gv.run (.bool false) rfl (by go_simp) rfl
    refine Obs.cons (fun u w hS hd => ?_) ?_
    · have d38 : u 38 = .bool false := dep hd 3 rfl
      rw [d38]
      exact Gv.skip (by rfl) rfl
    refine Obs.cons (fun u w hS hd => ?_) ?_
    · have d38 : u 38 = .bool false := dep hd 3 rfl
      rw [d38]
      exact Gv.skip (by rfl) rfl
    refine Obs.cons (fun u w hS hd => ?_) ?_
    · have d38 : u 38 = .bool false := dep hd 3 rfl
      rw [d38]
      exact Gv.skip (by rfl) rfl
    refine Obs.cons (fun u w hS hd => ?_) ?_
    · have d38 : u 38 = .bool false := dep hd 3 rfl
      rw [d38]
      exact Gv.skip (by rfl) rfl
    refine Obs.cons (fun u w hS hd => ?_) ?_
    · have d38 : u 38 = .bool false := dep hd 3 rfl
      rw [d38]
      exact Gv.skip (by rfl) rfl
    refine Obs.cons (fun u w hS hd => ?_) ?_
    · have d38 : u 38 = .bool false := dep hd 3 rfl
      rw [d38]
      exact Gv.skip (by rfl) rfl
    refine Obs.cons (fun u w hS hd => ?_) ?_
    · have d38 : u 38 = .bool false := dep hd 3 rfl
      rw [d38]
      exact Gv.skip (by rfl) rfl
    refine Obs.cons (fun u w hS hd => ?_) ?_
    · have d38 : u 38 = .bool false := dep hd 3 rfl
      rw [d38]
      exact Gv.skip (by rfl) rfl
    refine Obs.cons (fun u w hS hd => ?_) ?_
    · have d38 : u 38 = .bool false := dep hd 3 rfl
      rw [d38]
      exact Gv.skip (by rfl) rfl
    refine Obs.cons (fun u w hS hd => ?_) ?_
    · have d38 : u 38 = .bool false := dep hd 3 rfl
      rw [d38]
      exact Gv.skip (by rfl) rfl
    refine Obs.cons (fun u w hS hd => ?_) ?_
    · have d38 : u 38 = .bool false := dep hd 3 rfl
      rw [d38]
      exact Gv.skip (by rfl) rfl
    refine Obs.cons (fun u w hS hd => ?_) ?_
    · have d38 : u 38 = .bool false := dep hd 3 rfl
      rw [d38]
      exact Gv.skip (by rfl) rfl
    exact Obs.nil
  intro u v4 hS hd
  have d50 : u 50 = undef := hd 15 (by decide)
  have d38 : u 38 = .bool false := hd 3 (by decide)
  rw [d50, d38]
  replace r0 := r0.keep (hS.mono hc.size)
  replace hc := hc.trans (hS.mono hc.size)
  clear hd d50 d38 hS HQ HR0 HR5
  simp only [List.drop_succ_cons, List.drop_zero]
  go_wp2_with fail
  go_at_call 16
  refine (awake13 K v4).mono ?_
  rintro z v9 ⟨rfl, h0⟩
  have HC := Lib.hid (hc.trans (h0.mono hc.size))
  clear h0 hc r0
  go_wp2_with fail
  go_ret
  exact ⟨rfl, HC.out⟩
theorem wireform_law {A0 : Option Addr} {c0 : Nat} {b : List UInt8} (hl : b.length ≤ 140737488351232) (w : World) (r0 : Rd w w.heap.size A0 c0 b) :
    Calls Try.prog 6 #[.slice A0 b.length c0] w fun e w' => e = .returned (.bool true) ∧ Below w.heap.size w w' := by
  obtain ⟨N1, h1⟩ : ∃ N, N = numR b 0 0 1099511627776 := ⟨_, rfl⟩
  obtain ⟨N2, h2⟩ : ∃ N, N = textR b 0 (b.length : Int) := ⟨_, rfl⟩
  obtain ⟨rs1, e1, x⟩ := N1
  obtain ⟨rs2, e2, s⟩ := N2
  by_cases g1 : e1 = 0
  · subst g1
    by_cases g2 : e2 = 0
    · subst g2
      exact form_11 K h1.symm h2.symm hl w r0
    · exact form_10 K h1.symm h2.symm g2 hl w r0
  · by_cases g2 : e2 = 0
    · subst g2
      exact form_01 K h1.symm h2.symm g1 hl w r0
    · exact form_00 K h1.symm h2.symm g1 g2 hl w r0
end
end Go.Proofs.Ytonfdnihllhcbaa
