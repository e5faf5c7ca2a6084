/-
  Layer 12's awake, over contracts. Written by tools/gen_ae4.py. By an AI agent.
-/
import Derived.Test.YtmhfkabpfkoocaaDoorTA
import Derived.Test.YtmhfkabpfkoocaaDoorTE
namespace Go.Proofs.YtmhfkabpfkoocaaDoor
open Go Go.RowKit
set_option maxRecDepth 20000
def z32 : List UInt8 := List.replicate 32 0
def z12 : List UInt8 := List.replicate 12 0
theorem z32_len : z32.length = 32 := by decide
theorem z12_len : z12.length = 12 := by decide
theorem z32_made (w : World) : Rd (w.alloc (.cells (madeCells #[.int .u8 0] 32) 5)) (w.alloc (.cells (madeCells #[.int .u8 0] 32) 5)).heap.size (some ⟨w.heap.size, 0, none⟩) 32 z32 := (Own.made (w := w) (B := w.heap.size) 5 (n := 32) (Nat.le_refl _) (by decide)).rd
theorem z12_made (w : World) : Rd (w.alloc (.cells (madeCells #[.int .u8 0] 12) 5)) (w.alloc (.cells (madeCells #[.int .u8 0] 12) 5)).heap.size (some ⟨w.heap.size, 0, none⟩) 12 z12 := (Own.made (w := w) (B := w.heap.size) 5 (n := 12) (Nat.le_refl _) (by decide)).rd
/-- A slice of bytes and an error. -/
def tupL (S : List UInt8) (n er : Nat) (v : Value) (w : World) : Prop := ∃ A c, v = .tuple #[.slice A n c, .int .i64 (er : Int)] ∧ Rd w w.heap.size A c S
theorem tupL_keep {S : List UInt8} {n er : Nat} (v : Value) (w w' : World) (h : tupL S n er v w) (hb : Below w.heap.size w w') : tupL S n er v w' := by
  obtain ⟨A, c, e, r⟩ := h
  exact ⟨A, c, e, (r.keep hb).mono hb.size⟩
section
attribute [local irreducible] boxL xrN z32 z12
set_option maxHeartbeats 6400000 in
theorem awake12 {G : World → Prop} (kg : ∀ w w', G w → Below w.heap.size w w' → G w') (ks : CSealP G 9) (ko : COpenP G 12) (w : World) (hG : G w) :
    Calls Tryd.prog 7 #[] w fun e w' => e = .returned (.bool true) ∧ Below w.heap.size w w' := by
  obtain ⟨i0, hi, hz0, hz1, hz2⟩ := info_parts infoByte
  have hmk32 := run_mk (P := Tryd.prog) 22 5 i0 Tryd.underlying22 hi hz0 hz1 hz2 (l := 32) (n := 32) rfl (by decide)
  have hmk12 := run_mk (P := Tryd.prog) 22 5 i0 Tryd.underlying22 hi hz0 hz1 hz2 (l := 12) (n := 12) rfl (by decide)
  have e1 : sealA z32 z12 [] [] = boxL z32 z12 [] [] := by unfold sealA; rw [if_pos ⟨z32_len, z12_len⟩]
  have e2 : sealE z32 z12 = 0 := by unfold sealE; rw [if_pos ⟨z32_len, z12_len⟩]
  obtain ⟨e3, e4⟩ := open_seal z32_len z12_len [] []
  have e5 : openE z32 z12 [] [] = 3 := by unfold openE; rw [if_pos ⟨z32_len, z12_len⟩, if_pos (by decide)]
  have e6 : openA z32 z12 [] [] = [] := openA_no (by rw [e5]; decide)
  have hl := boxL_len z32 z12 [] []
  rw [List.length_nil] at hl
  have k1 := fun (A0 A1 : Option Addr) (c0 c1 : Nat) (w : World) hG h0 h1 => ks z32 z12 [] [] A0 A1 none none c0 c1 0 0 w (by decide) (by decide) hG h0 h1 (rd_nil12 _ _) (rd_nil12 _ _)
  rw [e1, e2, hl, z32_len, z12_len] at k1
  have k2 := fun (A0 A1 A3 : Option Addr) (c0 c1 c3 : Nat) (w : World) hG h0 h1 h3 => ko z32 z12 [] (boxL z32 z12 [] []) A0 A1 none A3 c0 c1 0 c3 w (by decide) (by rw [hl]; decide) hG h0 h1 (rd_nil12 _ _) h3
  rw [e3, e4, hl, z32_len, z12_len] at k2
  have k3 := fun (A0 A1 : Option Addr) (c0 c1 : Nat) (w : World) hG h0 h1 => ko z32 z12 [] [] A0 A1 none none c0 c1 0 0 w (by decide) (by decide) hG h0 h1 (rd_nil12 _ _) (rd_nil12 _ _)
  rw [e5, e6, z32_len, z12_len] at k3
  obtain ⟨S1, eS⟩ : ∃ S, S = boxL z32 z12 [] [] := ⟨_, rfl⟩
  rw [← eS] at k1 k2 hl
  have KS := Lib.hid k1
  have KO := Lib.hid k2
  have KN := Lib.hid k3
  have HS1 := Lib.hid hl
  have kG := Lib.hid kg
  clear k1 k2 k3 hl eS e1 e2 e3 e4 e5 e6 kg
  have hc := Below.refl w.heap.size w
  go_enter Tryd.func7, Tryd.ntmps7
  go_upto_region 1 with fail
  have HG := Lib.hid (fun wz (hz : Below w.heap.size w wz) => kG.out _ _ hG (hc.trans (hz.mono hc.size)))
  refine wp_region_inv 7 [8, 9, 10, 7, 11, 12, 1] [.byt z32, .byt z12, .sat (tupL S1 16 0) tupL_keep, .sat (tupL S1 16 0) tupL_keep, .byt S1, .val (.int .i64 0), .byt S1] (fun wz => Below w.heap.size w wz) (by kernel_rfl) (by kernel_rfl) (fun wz wz' hz hb => hz.trans (hb.mono hz.size)) ((Below.refl _ _).drew) (fun u => by simp only [puts, List.foldl_cons, List.foldl_nil]; go_simp; exact rfl) ?_ ?_
  · simp only [List.take_succ_cons, List.take_zero]
    refine Obs.cons (fun u w hS hd => ?_) ?_
    · refine Gv.make (.slice (some ⟨w.heap.size, 0, none⟩) 32 32) (w.alloc (.cells (madeCells #[.int .u8 0] 32) 5)) rfl (by have hm := hmk32 w; go_simp) ⟨_, _, by rw [z32_len], z32_made w⟩ ((Below.refl _ w).alloc (Nat.le_refl _) _)
    refine Obs.cons (fun u w hS hd => ?_) ?_
    · refine Gv.make (.slice (some ⟨w.heap.size, 0, none⟩) 12 12) (w.alloc (.cells (madeCells #[.int .u8 0] 12) 5)) rfl (by have hm := hmk12 w; go_simp) ⟨_, _, by rw [z12_len], z12_made w⟩ ((Below.refl _ w).alloc (Nat.le_refl _) _)
    refine Obs.cons (fun u w hS hd => ?_) ?_
    · obtain ⟨A8, c8, d8, g8⟩ : (Know.byt z32).ok (u 8) w := dep hd 0 rfl
      rw [z32_len] at d8
      rw [d8]
      obtain ⟨A9, c9, d9, g9⟩ : (Know.byt z12).ok (u 9) w := dep hd 1 rfl
      rw [z12_len] at d9
      rw [d9]
      refine Gv.call 9 #[.slice A8 32 c8, .slice A9 12 c9, .slice none 0 0, .slice none 0 0] rfl (by go_simp) ((KS.out _ _ _ _ w (HG.out w hS) g8 g9).mono ?_)
      rintro e w' ⟨A, c, rfl, R, hb⟩
      exact ⟨_, rfl, ⟨A, c, rfl, R⟩, hb⟩
    refine Obs.cons (fun u w hS hd => ?_) ?_
    · obtain ⟨A, c, d10, g10⟩ : (Know.sat (tupL S1 16 0) tupL_keep).ok (u 10) w := dep hd 2 rfl
      rw [d10]
      exact Gv.run (.tuple #[.slice A 16 c, .int .i64 0]) rfl (by go_simp) ⟨_, _, rfl, g10⟩
    refine Obs.cons (fun u w hS hd => ?_) ?_
    · obtain ⟨A, c, d7, g7⟩ : (Know.sat (tupL S1 16 0) tupL_keep).ok (u 7) w := dep hd 3 rfl
      rw [d7]
      exact Gv.run (.slice A 16 c) rfl (by go_simp) ⟨_, _, by rw [HS1.out], g7⟩
    refine Obs.cons (fun u w hS hd => ?_) ?_
    · obtain ⟨A, c, d7, g7⟩ : (Know.sat (tupL S1 16 0) tupL_keep).ok (u 7) w := dep hd 3 rfl
      rw [d7]
      exact Gv.run (.int .i64 0) rfl (by go_simp) rfl
    refine Obs.cons (fun u w hS hd => ?_) ?_
    · obtain ⟨A11, c11, d11, g11⟩ : (Know.byt S1).ok (u 11) w := dep hd 4 rfl
      rw [HS1.out] at d11
      rw [d11]
      exact Gv.run (.slice A11 16 c11) rfl (by go_simp) ⟨_, _, by rw [HS1.out], g11⟩
    exact Obs.nil
  intro u wz hS hd
  obtain ⟨A1, c1, d1, g1⟩ : (Know.byt S1).ok (u 1) wz := hd 6 (by decide)
  rw [HS1.out] at d1
  rw [d1]
  have d12 : u 12 = .int .i64 0 := hd 5 (by decide)
  rw [d12]
  clear hd d1 d12
  simp only [List.drop_succ_cons, List.drop_zero]
  obtain ⟨v1, ey⟩ : ∃ v, v = wz := ⟨_, rfl⟩
  rw [← ey] at hS g1 ⊢
  clear ey wz
  have r1 := g1
  replace hc := hS
  clear g1 hS HG KS
  go_upto_region 2 with fail
  have HG := Lib.hid (fun wz (hz : Below v1.heap.size v1 wz) => kG.out _ _ hG (hc.trans (hz.mono hc.size)))
  refine wp_region_inv 8 [14, 15, 16, 17, 13, 18, 19, 3] [.byt z32, .byt z12, .byt S1, .sat (tupL [] 0 0) tupL_keep, .sat (tupL [] 0 0) tupL_keep, .byt [], .val (.int .i64 0), .byt []] (fun wz => Below v1.heap.size v1 wz) (by kernel_rfl) (by kernel_rfl) (fun wz wz' hz hb => hz.trans (hb.mono hz.size)) ((Below.refl _ _).drew) (fun u => by simp only [puts, List.foldl_cons, List.foldl_nil]; go_simp; exact rfl) ?_ ?_
  · simp only [List.take_succ_cons, List.take_zero]
    refine Obs.cons (fun u w hS hd => ?_) ?_
    · refine Gv.make (.slice (some ⟨w.heap.size, 0, none⟩) 32 32) (w.alloc (.cells (madeCells #[.int .u8 0] 32) 5)) rfl (by have hm := hmk32 w; go_simp) ⟨_, _, by rw [z32_len], z32_made w⟩ ((Below.refl _ w).alloc (Nat.le_refl _) _)
    refine Obs.cons (fun u w hS hd => ?_) ?_
    · refine Gv.make (.slice (some ⟨w.heap.size, 0, none⟩) 12 12) (w.alloc (.cells (madeCells #[.int .u8 0] 12) 5)) rfl (by have hm := hmk12 w; go_simp) ⟨_, _, by rw [z12_len], z12_made w⟩ ((Below.refl _ w).alloc (Nat.le_refl _) _)
    refine Obs.cons (fun u w hS hd => ?_) ?_
    · exact Gv.run (.slice A1 16 c1) rfl (by go_simp) (⟨_, _, by rw [HS1.out], (r1.keep hS).mono hS.size⟩)
    refine Obs.cons (fun u w hS hd => ?_) ?_
    · obtain ⟨A14, c14, d14, g14⟩ : (Know.byt z32).ok (u 14) w := dep hd 0 rfl
      rw [z32_len] at d14
      rw [d14]
      obtain ⟨A15, c15, d15, g15⟩ : (Know.byt z12).ok (u 15) w := dep hd 1 rfl
      rw [z12_len] at d15
      rw [d15]
      obtain ⟨A16, c16, d16, g16⟩ : (Know.byt S1).ok (u 16) w := dep hd 2 rfl
      rw [HS1.out] at d16
      rw [d16]
      refine Gv.call 12 #[.slice A14 32 c14, .slice A15 12 c15, .slice none 0 0, .slice A16 16 c16] rfl (by go_simp) ((KO.out _ _ _ _ _ _ w (HG.out w hS) g14 g15 g16).mono ?_)
      rintro e w' ⟨A, c, rfl, R, hb⟩
      exact ⟨_, rfl, ⟨A, c, rfl, R⟩, hb⟩
    refine Obs.cons (fun u w hS hd => ?_) ?_
    · obtain ⟨A, c, d17, g17⟩ : (Know.sat (tupL [] 0 0) tupL_keep).ok (u 17) w := dep hd 3 rfl
      rw [d17]
      exact Gv.run (.tuple #[.slice A 0 c, .int .i64 0]) rfl (by go_simp) ⟨_, _, rfl, g17⟩
    refine Obs.cons (fun u w hS hd => ?_) ?_
    · obtain ⟨A, c, d13, g13⟩ : (Know.sat (tupL [] 0 0) tupL_keep).ok (u 13) w := dep hd 4 rfl
      rw [d13]
      exact Gv.run (.slice A 0 c) rfl (by go_simp) ⟨_, _, by rw [List.length_nil], g13⟩
    refine Obs.cons (fun u w hS hd => ?_) ?_
    · obtain ⟨A, c, d13, g13⟩ : (Know.sat (tupL [] 0 0) tupL_keep).ok (u 13) w := dep hd 4 rfl
      rw [d13]
      exact Gv.run (.int .i64 0) rfl (by go_simp) rfl
    refine Obs.cons (fun u w hS hd => ?_) ?_
    · obtain ⟨A18, c18, d18, g18⟩ : (Know.byt []).ok (u 18) w := dep hd 5 rfl
      rw [List.length_nil] at d18
      rw [d18]
      exact Gv.run (.slice A18 0 c18) rfl (by go_simp) ⟨_, _, by rw [List.length_nil], g18⟩
    exact Obs.nil
  intro u wz hS hd
  obtain ⟨A3, c3, d3, g3⟩ : (Know.byt []).ok (u 3) wz := hd 7 (by decide)
  rw [List.length_nil] at d3
  rw [d3]
  have d19 : u 19 = .int .i64 0 := hd 6 (by decide)
  rw [d19]
  clear hd d3 d19
  simp only [List.drop_succ_cons, List.drop_zero]
  obtain ⟨v2, ey⟩ : ∃ v, v = wz := ⟨_, rfl⟩
  rw [← ey] at hS g3 ⊢
  clear ey wz
  replace r1 := (r1.keep hS).mono hS.size
  replace hc := hc.trans (hS.mono hc.size)
  clear g3 hS HG KO
  go_upto_region 3 with fail
  have HG := Lib.hid (fun wz (hz : Below v2.heap.size v2 wz) => kG.out _ _ hG (hc.trans (hz.mono hc.size)))
  refine wp_region_inv 7 [21, 22, 23, 20, 24, 25, 5] [.byt z32, .byt z12, .sat (tupL [] 0 3) tupL_keep, .sat (tupL [] 0 3) tupL_keep, .byt [], .val (.int .i64 3), .byt []] (fun wz => Below v2.heap.size v2 wz) (by kernel_rfl) (by kernel_rfl) (fun wz wz' hz hb => hz.trans (hb.mono hz.size)) ((Below.refl _ _).drew) (fun u => by simp only [puts, List.foldl_cons, List.foldl_nil]; go_simp; exact rfl) ?_ ?_
  · simp only [List.take_succ_cons, List.take_zero]
    refine Obs.cons (fun u w hS hd => ?_) ?_
    · refine Gv.make (.slice (some ⟨w.heap.size, 0, none⟩) 32 32) (w.alloc (.cells (madeCells #[.int .u8 0] 32) 5)) rfl (by have hm := hmk32 w; go_simp) ⟨_, _, by rw [z32_len], z32_made w⟩ ((Below.refl _ w).alloc (Nat.le_refl _) _)
    refine Obs.cons (fun u w hS hd => ?_) ?_
    · refine Gv.make (.slice (some ⟨w.heap.size, 0, none⟩) 12 12) (w.alloc (.cells (madeCells #[.int .u8 0] 12) 5)) rfl (by have hm := hmk12 w; go_simp) ⟨_, _, by rw [z12_len], z12_made w⟩ ((Below.refl _ w).alloc (Nat.le_refl _) _)
    refine Obs.cons (fun u w hS hd => ?_) ?_
    · obtain ⟨A21, c21, d21, g21⟩ : (Know.byt z32).ok (u 21) w := dep hd 0 rfl
      rw [z32_len] at d21
      rw [d21]
      obtain ⟨A22, c22, d22, g22⟩ : (Know.byt z12).ok (u 22) w := dep hd 1 rfl
      rw [z12_len] at d22
      rw [d22]
      refine Gv.call 12 #[.slice A21 32 c21, .slice A22 12 c22, .slice none 0 0, .slice none 0 0] rfl (by go_simp) ((KN.out _ _ _ _ w (HG.out w hS) g21 g22).mono ?_)
      rintro e w' ⟨A, c, rfl, R, hb⟩
      exact ⟨_, rfl, ⟨A, c, rfl, R⟩, hb⟩
    refine Obs.cons (fun u w hS hd => ?_) ?_
    · obtain ⟨A, c, d23, g23⟩ : (Know.sat (tupL [] 0 3) tupL_keep).ok (u 23) w := dep hd 2 rfl
      rw [d23]
      exact Gv.run (.tuple #[.slice A 0 c, .int .i64 3]) rfl (by go_simp) ⟨_, _, rfl, g23⟩
    refine Obs.cons (fun u w hS hd => ?_) ?_
    · obtain ⟨A, c, d20, g20⟩ : (Know.sat (tupL [] 0 3) tupL_keep).ok (u 20) w := dep hd 3 rfl
      rw [d20]
      exact Gv.run (.slice A 0 c) rfl (by go_simp) ⟨_, _, by rw [List.length_nil], g20⟩
    refine Obs.cons (fun u w hS hd => ?_) ?_
    · obtain ⟨A, c, d20, g20⟩ : (Know.sat (tupL [] 0 3) tupL_keep).ok (u 20) w := dep hd 3 rfl
      rw [d20]
      exact Gv.run (.int .i64 3) rfl (by go_simp) rfl
    refine Obs.cons (fun u w hS hd => ?_) ?_
    · obtain ⟨A24, c24, d24, g24⟩ : (Know.byt []).ok (u 24) w := dep hd 4 rfl
      rw [List.length_nil] at d24
      rw [d24]
      exact Gv.run (.slice A24 0 c24) rfl (by go_simp) ⟨_, _, by rw [List.length_nil], g24⟩
    exact Obs.nil
  intro u wz hS hd
  obtain ⟨A5, c5, d5, g5⟩ : (Know.byt []).ok (u 5) wz := hd 6 (by decide)
  rw [List.length_nil] at d5
  rw [d5]
  have d25 : u 25 = .int .i64 3 := hd 5 (by decide)
  rw [d25]
  clear hd d5 d25
  simp only [List.drop_succ_cons, List.drop_zero]
  have hfin := hc.trans (hS.mono hc.size)
  clear g5 hS HG KN
  go_wp2_with fail
  go_ret
  exact ⟨rfl, hfin⟩
end
end Go.Proofs.YtmhfkabpfkoocaaDoor
