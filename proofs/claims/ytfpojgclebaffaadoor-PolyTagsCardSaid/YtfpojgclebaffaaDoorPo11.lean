/-
  Layer 11's laws: PolyTags. Written by tools/gen_po10.py. By an AI agent.
-/
import Derived.Test.YtfpojgclebaffaaDoorPo9
import Derived.Test.YtfpojgclebaffaaDoorSeq
namespace Go.Proofs.YtfpojgclebaffaaDoor
open Go Go.RowKit
set_option maxRecDepth 20000
theorem tags_much {A B : Option Addr} {n m c d : Nat} (hm : 2000 < m) (w : World) (hG : GlbP w) :
    Calls Tryd.prog 4 #[.slice A n c, .slice B m d] w fun e w' => e = .returned (.bool true) ∧ Below w.heap.size w w' := by
  have g1 : (2000 : Int) < (m : Int) := by omega
  go_enter Tryd.func4, Tryd.ntmps4
  go_wp2_with fail
  go_at_call 10
  refine (awake11 w hG).mono ?_
  rintro e v1 ⟨rfl, hc⟩
  go_wp2_with fail
  go_ret
  exact ⟨rfl, hc⟩
section
attribute [local irreducible] tagA tagE
set_option maxHeartbeats 3200000 in
theorem tags_law {A B : Option Addr} {c d : Nat} {key b : List UInt8} (hl : key.length ≤ 140737488355328) (hb : b.length ≤ 2000) (w : World) (hG : GlbP w) (r0 : Rd w w.heap.size A c key) (q0 : Rd w w.heap.size B d b) :
    Calls Tryd.prog 4 #[.slice A key.length c, .slice B b.length d] w fun e w' => e = .returned (.bool true) ∧ Below w.heap.size w w' := by
  have KG := Lib.hid (fun (A B : Option Addr) (c d : Nat) (w : World) hG hr hq => cTag (A0 := A) (A1 := B) (c0 := c) (c1 := d) (key := key) (b := b) w hG hr hq)
  have KR := Lib.hid (fun (A B : Option Addr) (c d : Nat) (w : World) hr hq => rTag (A0 := A) (A1 := B) (c0 := c) (c1 := d) (key := key) (b := b) (by omega) w hr hq)
  generalize tagA key b = S at KG KR
  generalize tagE key = er at KG KR
  have HL := Lib.hid hl
  have HM := Lib.hid (show b.length ≤ 140737488355328 by omega)
  have g1 : ¬ (2000 : Int) < (b.length : Int) := by omega
  clear hl hb
  have hc := Below.refl w.heap.size w
  go_enter Tryd.func4, Tryd.ntmps4
  go_wp2_with fail
  go_at_call 7
  refine (own11_rd key _ _ _ HL.out r0).mono ?_
  rintro e y1 ⟨A1, c1, rfl, r1, h0⟩
  replace r0 := (r0.keep h0).mono h0.size
  replace q0 := (q0.keep h0).mono h0.size
  replace hc := hc.trans (h0.mono hc.size)
  clear h0
  go_wp2_with fail
  go_at_call 7
  refine (own11_rd b _ _ _ HM.out q0).mono ?_
  rintro e y2 ⟨A2, c2, rfl, r2, h0⟩
  replace r0 := (r0.keep h0).mono h0.size
  replace q0 := (q0.keep h0).mono h0.size
  replace r1 := (r1.keep h0).mono h0.size
  replace hc := hc.trans (h0.mono hc.size)
  clear h0
  go_wp2_with fail
  go_at_call 11
  refine (KG.out _ _ _ _ _ (hG.next hc) r1 r2).mono ?_
  rintro e y3 ⟨A3, c3, rfl, r3, h0⟩
  replace r0 := (r0.keep h0).mono h0.size
  replace q0 := (q0.keep h0).mono h0.size
  replace r1 := (r1.keep h0).mono h0.size
  replace r2 := (r2.keep h0).mono h0.size
  replace hc := hc.trans (h0.mono hc.size)
  clear h0
  go_wp2_with fail
  go_at_call 12
  refine (KR.out _ _ _ _ _ r0 q0).mono ?_
  rintro e y4 ⟨A4, c4, rfl, r4, h0⟩
  replace r0 := (r0.keep h0).mono h0.size
  replace q0 := (q0.keep h0).mono h0.size
  replace r1 := (r1.keep h0).mono h0.size
  replace r2 := (r2.keep h0).mono h0.size
  replace r3 := (r3.keep h0).mono h0.size
  replace hc := hc.trans (h0.mono hc.size)
  clear h0
  have HG := Lib.hid (fun wz (hz : Below y4.heap.size y4 wz) => hG.next (hc.trans (hz.mono hc.size)))
  clear KG KR g1
  go_upto_region 6 with fail
  refine wp_region_obs 26 [31, 32, 33, 34, 35, 36, 37, 38, 39, 40, 41, 42, 43, 44, 45, 46, 47, 48, 49, 50, 51, 52, 53, 54, 55, 56] [.byt S, .val (.string ⟨S.toArray⟩), .byt S, .val (.string ⟨S.toArray⟩), .val (.bool true), .val (.bool true), .val (.int .i64 (er : Int)), .val (.int .i64 (er : Int)), .val (.bool true), .val (.bool true), .val (.bool true), .byt key, .val (.string ⟨key.toArray⟩), .byt key, .val (.string ⟨key.toArray⟩), .val (.bool true), .val (.bool true), .val (.bool true), .byt b, .val (.string ⟨b.toArray⟩), .byt b, .val (.string ⟨b.toArray⟩), .val (.bool true), .val (.bool true), .val (.bool true), .val (.bool true)] (fun wz => Below y4.heap.size y4 wz) (by kernel_rfl) (fun wz wz' hz hb => hz.trans (hb.mono hz.size)) (Below.refl _ _) (fun u => by simp only [puts, List.foldl_cons, List.foldl_nil]; go_simp; exact rfl) ?_ ?_
  · simp only [List.take_succ_cons, List.take_zero]
    refine ObsS.cons (fun u w hS hd => ?_) ?_
    · exact Gv.run (.slice A3 S.length c3) rfl (by go_simp) (⟨_, _, rfl, (r3.keep hS).mono hS.size⟩)
    refine ObsS.cons (fun u w hS hd => ?_) ?_
    · obtain ⟨A31, c31, d31, g31⟩ : (Know.byt S).ok (u 31) w := hd 0 (by decide)
      rw [d31]
      exact Gv.run (.string ⟨S.toArray⟩) rfl (run_conv rfl rfl (run_str w 22 5 Tryd.underlying22 Tryd.underlying5 (dst := 9) Tryd.underlying9 g31)) rfl
    refine ObsS.cons (fun u w hS hd => ?_) ?_
    · exact Gv.run (.slice A4 S.length c4) rfl (by go_simp) (⟨_, _, rfl, (r4.keep hS).mono hS.size⟩)
    refine ObsS.cons (fun u w hS hd => ?_) ?_
    · obtain ⟨A33, c33, d33, g33⟩ : (Know.byt S).ok (u 33) w := hd 2 (by decide)
      rw [d33]
      exact Gv.run (.string ⟨S.toArray⟩) rfl (run_conv rfl rfl (run_str w 22 5 Tryd.underlying22 Tryd.underlying5 (dst := 9) Tryd.underlying9 g33)) rfl
    refine ObsS.cons (fun u w hS hd => ?_) ?_
    · have d32 : u 32 = .string ⟨S.toArray⟩ := hd 1 (by decide)
      rw [d32]
      have d34 : u 34 = .string ⟨S.toArray⟩ := hd 3 (by decide)
      rw [d34]
      exact Gv.run (.bool true) rfl (by go_simp) rfl
    refine ObsS.cons (fun u w hS hd => ?_) ?_
    · have d35 : u 35 = .bool true := hd 4 (by decide)
      rw [d35]
      exact Gv.run (.bool true) rfl (by go_simp) rfl
    refine ObsS.cons (fun u w hS hd => ?_) ?_
    · have d36 : u 36 = .bool true := hd 5 (by decide)
      rw [d36]
      exact Gv.run (.int .i64 (er : Int)) rfl (by go_simp) rfl
    refine ObsS.cons (fun u w hS hd => ?_) ?_
    · have d36 : u 36 = .bool true := hd 5 (by decide)
      rw [d36]
      exact Gv.run (.int .i64 (er : Int)) rfl (by go_simp) rfl
    refine ObsS.cons (fun u w hS hd => ?_) ?_
    · have d36 : u 36 = .bool true := hd 5 (by decide)
      rw [d36]
      have d37 : u 37 = .int .i64 (er : Int) := hd 6 (by decide)
      rw [d37]
      have d38 : u 38 = .int .i64 (er : Int) := hd 7 (by decide)
      rw [d38]
      exact Gv.run (.bool true) rfl (by go_simp) rfl
    refine ObsS.cons (fun u w hS hd => ?_) ?_
    · have d36 : u 36 = .bool true := hd 5 (by decide)
      rw [d36]
      have d39 : u 39 = .bool true := hd 8 (by decide)
      rw [d39]
      exact Gv.run (.bool true) rfl (by go_simp) rfl
    refine ObsS.cons (fun u w hS hd => ?_) ?_
    · have d40 : u 40 = .bool true := hd 9 (by decide)
      rw [d40]
      exact Gv.run (.bool true) rfl (by go_simp) rfl
    refine ObsS.cons (fun u w hS hd => ?_) ?_
    · have d41 : u 41 = .bool true := hd 10 (by decide)
      rw [d41]
      exact Gv.run (.slice A1 key.length c1) rfl (by go_simp) (⟨_, _, rfl, (r1.keep hS).mono hS.size⟩)
    refine ObsS.cons (fun u w hS hd => ?_) ?_
    · have d41 : u 41 = .bool true := hd 10 (by decide)
      rw [d41]
      obtain ⟨A42, c42, d42, g42⟩ : (Know.byt key).ok (u 42) w := hd 11 (by decide)
      rw [d42]
      exact Gv.run (.string ⟨key.toArray⟩) rfl (run_conv rfl rfl (run_str w 22 5 Tryd.underlying22 Tryd.underlying5 (dst := 9) Tryd.underlying9 g42)) rfl
    refine ObsS.cons (fun u w hS hd => ?_) ?_
    · have d41 : u 41 = .bool true := hd 10 (by decide)
      rw [d41]
      exact Gv.run (.slice A key.length c) rfl (by go_simp) (⟨_, _, rfl, (r0.keep hS).mono hS.size⟩)
    refine ObsS.cons (fun u w hS hd => ?_) ?_
    · have d41 : u 41 = .bool true := hd 10 (by decide)
      rw [d41]
      obtain ⟨A44, c44, d44, g44⟩ : (Know.byt key).ok (u 44) w := hd 13 (by decide)
      rw [d44]
      exact Gv.run (.string ⟨key.toArray⟩) rfl (run_conv rfl rfl (run_str w 22 5 Tryd.underlying22 Tryd.underlying5 (dst := 9) Tryd.underlying9 g44)) rfl
    refine ObsS.cons (fun u w hS hd => ?_) ?_
    · have d41 : u 41 = .bool true := hd 10 (by decide)
      rw [d41]
      have d43 : u 43 = .string ⟨key.toArray⟩ := hd 12 (by decide)
      rw [d43]
      have d45 : u 45 = .string ⟨key.toArray⟩ := hd 14 (by decide)
      rw [d45]
      exact Gv.run (.bool true) rfl (by go_simp) rfl
    refine ObsS.cons (fun u w hS hd => ?_) ?_
    · have d41 : u 41 = .bool true := hd 10 (by decide)
      rw [d41]
      have d46 : u 46 = .bool true := hd 15 (by decide)
      rw [d46]
      exact Gv.run (.bool true) rfl (by go_simp) rfl
    refine ObsS.cons (fun u w hS hd => ?_) ?_
    · have d47 : u 47 = .bool true := hd 16 (by decide)
      rw [d47]
      exact Gv.run (.bool true) rfl (by go_simp) rfl
    refine ObsS.cons (fun u w hS hd => ?_) ?_
    · have d48 : u 48 = .bool true := hd 17 (by decide)
      rw [d48]
      exact Gv.run (.slice A2 b.length c2) rfl (by go_simp) (⟨_, _, rfl, (r2.keep hS).mono hS.size⟩)
    refine ObsS.cons (fun u w hS hd => ?_) ?_
    · have d48 : u 48 = .bool true := hd 17 (by decide)
      rw [d48]
      obtain ⟨A49, c49, d49, g49⟩ : (Know.byt b).ok (u 49) w := hd 18 (by decide)
      rw [d49]
      exact Gv.run (.string ⟨b.toArray⟩) rfl (run_conv rfl rfl (run_str w 22 5 Tryd.underlying22 Tryd.underlying5 (dst := 9) Tryd.underlying9 g49)) rfl
    refine ObsS.cons (fun u w hS hd => ?_) ?_
    · have d48 : u 48 = .bool true := hd 17 (by decide)
      rw [d48]
      exact Gv.run (.slice B b.length d) rfl (by go_simp) (⟨_, _, rfl, (q0.keep hS).mono hS.size⟩)
    refine ObsS.cons (fun u w hS hd => ?_) ?_
    · have d48 : u 48 = .bool true := hd 17 (by decide)
      rw [d48]
      obtain ⟨A51, c51, d51, g51⟩ : (Know.byt b).ok (u 51) w := hd 20 (by decide)
      rw [d51]
      exact Gv.run (.string ⟨b.toArray⟩) rfl (run_conv rfl rfl (run_str w 22 5 Tryd.underlying22 Tryd.underlying5 (dst := 9) Tryd.underlying9 g51)) rfl
    refine ObsS.cons (fun u w hS hd => ?_) ?_
    · have d48 : u 48 = .bool true := hd 17 (by decide)
      rw [d48]
      have d50 : u 50 = .string ⟨b.toArray⟩ := hd 19 (by decide)
      rw [d50]
      have d52 : u 52 = .string ⟨b.toArray⟩ := hd 21 (by decide)
      rw [d52]
      exact Gv.run (.bool true) rfl (by go_simp) rfl
    refine ObsS.cons (fun u w hS hd => ?_) ?_
    · have d48 : u 48 = .bool true := hd 17 (by decide)
      rw [d48]
      have d53 : u 53 = .bool true := hd 22 (by decide)
      rw [d53]
      exact Gv.run (.bool true) rfl (by go_simp) rfl
    refine ObsS.cons (fun u w hS hd => ?_) ?_
    · have d54 : u 54 = .bool true := hd 23 (by decide)
      rw [d54]
      exact Gv.run (.bool true) rfl (by go_simp) rfl
    refine ObsS.cons (fun u w hS hd => ?_) ?_
    · have d55 : u 55 = .bool true := hd 24 (by decide)
      rw [d55]
      refine Gv.call 10 #[] rfl (by go_simp) ((awake11 w (HG.out w hS)).mono ?_)
      rintro e w' ⟨rfl, hb⟩
      exact ⟨_, rfl, rfl, hb⟩
    exact ObsS.nil
  intro u wz hS hd
  have d55 : u 55 = .bool true := hd 24 (by decide)
  rw [d55]
  have d56 : u 56 = .bool true := hd 25 (by decide)
  rw [d56]
  clear hd d55 d56
  simp only [List.drop_succ_cons, List.drop_zero]
  have hfin := hc.trans (hS.mono hc.size)
  go_wp2_with fail
  go_ret
  exact ⟨rfl, hfin⟩
end
theorem tags_w (w : World) (hG : GlbP w) {A B : Option Addr} {c d : Nat} {key b : List UInt8} (r0 : Rd w w.heap.size A c key) (hl : key.length ≤ 140737488351232) (q0 : Rd w w.heap.size B d b) (_ : b.length ≤ 140737488351232) :
    Calls Tryd.prog 4 #[.slice A key.length c, .slice B b.length d] w fun e w' => e = .returned (.bool true) ∧ Below w.heap.size w w' := by
  by_cases h : b.length ≤ 2000
  · exact tags_law (by omega) h w hG r0 q0
  · exact tags_much (by omega) w hG
end Go.Proofs.YtfpojgclebaffaaDoor
