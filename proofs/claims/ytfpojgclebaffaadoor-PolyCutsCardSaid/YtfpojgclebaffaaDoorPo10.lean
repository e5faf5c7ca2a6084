/-
  Layer 11's laws: PolyCuts. Written by tools/gen_po10.py. By an AI agent.
-/
import Derived.Test.YtfpojgclebaffaaDoorPo9
import Derived.Test.YtfpojgclebaffaaDoorSeq
namespace Go.Proofs.YtfpojgclebaffaaDoor
open Go Go.RowKit
set_option maxRecDepth 20000
section
attribute [local irreducible] cutA cutE
set_option maxHeartbeats 3200000 in
theorem cuts_law {A : Option Addr} {c : Nat} {r : List UInt8} (hl : r.length ≤ 140737488355328) (w : World) (hG : GlbP w) (r0 : Rd w w.heap.size A c r) :
    Calls Tryd.prog 3 #[.slice A r.length c] w fun e w' => e = .returned (.bool true) ∧ Below w.heap.size w w' := by
  have KG := Lib.hid (fun (A : Option Addr) (c : Nat) (w : World) hG hr => cCut (A := A) (c := c) (r := r) w hG hr)
  have KR := Lib.hid (fun (A : Option Addr) (c : Nat) (w : World) hr => rCut (A := A) (c := c) (r := r) w hr)
  generalize cutA r = S at KG KR
  generalize cutE r = er at KG KR
  have HL := Lib.hid hl
  clear hl
  have hc := Below.refl w.heap.size w
  go_enter Tryd.func3, Tryd.ntmps3
  go_wp2_with fail
  go_at_call 7
  refine (own11_rd r _ _ _ HL.out r0).mono ?_
  rintro e y1 ⟨A1, c1, rfl, r1, h0⟩
  replace r0 := (r0.keep h0).mono h0.size
  replace hc := hc.trans (h0.mono hc.size)
  clear h0
  go_wp2_with fail
  go_at_call 8
  refine (KG.out _ _ _ (hG.next hc) r1).mono ?_
  rintro e y2 ⟨A2, c2, rfl, r2, h0⟩
  replace r0 := (r0.keep h0).mono h0.size
  replace r1 := (r1.keep h0).mono h0.size
  replace hc := hc.trans (h0.mono hc.size)
  clear h0
  go_wp2_with fail
  go_at_call 9
  refine (KR.out _ _ _ r0).mono ?_
  rintro e y3 ⟨A3, c3, rfl, r3, h0⟩
  replace r0 := (r0.keep h0).mono h0.size
  replace r1 := (r1.keep h0).mono h0.size
  replace r2 := (r2.keep h0).mono h0.size
  replace hc := hc.trans (h0.mono hc.size)
  clear h0
  have HG := Lib.hid (fun wz (hz : Below y3.heap.size y3 wz) => hG.next (hc.trans (hz.mono hc.size)))
  clear KG KR
  go_upto_region 4 with fail
  refine wp_region_obs 19 [20, 21, 22, 23, 24, 25, 26, 27, 28, 29, 30, 31, 32, 33, 34, 35, 36, 37, 38] [.byt S, .val (.string ⟨S.toArray⟩), .byt S, .val (.string ⟨S.toArray⟩), .val (.bool true), .val (.bool true), .val (.int .i64 (er : Int)), .val (.int .i64 (er : Int)), .val (.bool true), .val (.bool true), .val (.bool true), .byt r, .val (.string ⟨r.toArray⟩), .byt r, .val (.string ⟨r.toArray⟩), .val (.bool true), .val (.bool true), .val (.bool true), .val (.bool true)] (fun wz => Below y3.heap.size y3 wz) (by kernel_rfl) (fun wz wz' hz hb => hz.trans (hb.mono hz.size)) (Below.refl _ _) (fun u => by simp only [puts, List.foldl_cons, List.foldl_nil]; go_simp; exact rfl) ?_ ?_
  · simp only [List.take_succ_cons, List.take_zero]
    refine ObsS.cons (fun u w hS hd => ?_) ?_
    · exact Gv.run (.slice A2 S.length c2) rfl (by go_simp) (⟨_, _, rfl, (r2.keep hS).mono hS.size⟩)
    refine ObsS.cons (fun u w hS hd => ?_) ?_
    · obtain ⟨A20, c20, d20, g20⟩ : (Know.byt S).ok (u 20) w := hd 0 (by decide)
      rw [d20]
      exact Gv.run (.string ⟨S.toArray⟩) rfl (run_conv rfl rfl (run_str w 22 5 Tryd.underlying22 Tryd.underlying5 (dst := 9) Tryd.underlying9 g20)) rfl
    refine ObsS.cons (fun u w hS hd => ?_) ?_
    · exact Gv.run (.slice A3 S.length c3) rfl (by go_simp) (⟨_, _, rfl, (r3.keep hS).mono hS.size⟩)
    refine ObsS.cons (fun u w hS hd => ?_) ?_
    · obtain ⟨A22, c22, d22, g22⟩ : (Know.byt S).ok (u 22) w := hd 2 (by decide)
      rw [d22]
      exact Gv.run (.string ⟨S.toArray⟩) rfl (run_conv rfl rfl (run_str w 22 5 Tryd.underlying22 Tryd.underlying5 (dst := 9) Tryd.underlying9 g22)) rfl
    refine ObsS.cons (fun u w hS hd => ?_) ?_
    · have d21 : u 21 = .string ⟨S.toArray⟩ := hd 1 (by decide)
      rw [d21]
      have d23 : u 23 = .string ⟨S.toArray⟩ := hd 3 (by decide)
      rw [d23]
      exact Gv.run (.bool true) rfl (by go_simp) rfl
    refine ObsS.cons (fun u w hS hd => ?_) ?_
    · have d24 : u 24 = .bool true := hd 4 (by decide)
      rw [d24]
      exact Gv.run (.bool true) rfl (by go_simp) rfl
    refine ObsS.cons (fun u w hS hd => ?_) ?_
    · have d25 : u 25 = .bool true := hd 5 (by decide)
      rw [d25]
      exact Gv.run (.int .i64 (er : Int)) rfl (by go_simp) rfl
    refine ObsS.cons (fun u w hS hd => ?_) ?_
    · have d25 : u 25 = .bool true := hd 5 (by decide)
      rw [d25]
      exact Gv.run (.int .i64 (er : Int)) rfl (by go_simp) rfl
    refine ObsS.cons (fun u w hS hd => ?_) ?_
    · have d25 : u 25 = .bool true := hd 5 (by decide)
      rw [d25]
      have d26 : u 26 = .int .i64 (er : Int) := hd 6 (by decide)
      rw [d26]
      have d27 : u 27 = .int .i64 (er : Int) := hd 7 (by decide)
      rw [d27]
      exact Gv.run (.bool true) rfl (by go_simp) rfl
    refine ObsS.cons (fun u w hS hd => ?_) ?_
    · have d25 : u 25 = .bool true := hd 5 (by decide)
      rw [d25]
      have d28 : u 28 = .bool true := hd 8 (by decide)
      rw [d28]
      exact Gv.run (.bool true) rfl (by go_simp) rfl
    refine ObsS.cons (fun u w hS hd => ?_) ?_
    · have d29 : u 29 = .bool true := hd 9 (by decide)
      rw [d29]
      exact Gv.run (.bool true) rfl (by go_simp) rfl
    refine ObsS.cons (fun u w hS hd => ?_) ?_
    · have d30 : u 30 = .bool true := hd 10 (by decide)
      rw [d30]
      exact Gv.run (.slice A1 r.length c1) rfl (by go_simp) (⟨_, _, rfl, (r1.keep hS).mono hS.size⟩)
    refine ObsS.cons (fun u w hS hd => ?_) ?_
    · have d30 : u 30 = .bool true := hd 10 (by decide)
      rw [d30]
      obtain ⟨A31, c31, d31, g31⟩ : (Know.byt r).ok (u 31) w := hd 11 (by decide)
      rw [d31]
      exact Gv.run (.string ⟨r.toArray⟩) rfl (run_conv rfl rfl (run_str w 22 5 Tryd.underlying22 Tryd.underlying5 (dst := 9) Tryd.underlying9 g31)) rfl
    refine ObsS.cons (fun u w hS hd => ?_) ?_
    · have d30 : u 30 = .bool true := hd 10 (by decide)
      rw [d30]
      exact Gv.run (.slice A r.length c) rfl (by go_simp) (⟨_, _, rfl, (r0.keep hS).mono hS.size⟩)
    refine ObsS.cons (fun u w hS hd => ?_) ?_
    · have d30 : u 30 = .bool true := hd 10 (by decide)
      rw [d30]
      obtain ⟨A33, c33, d33, g33⟩ : (Know.byt r).ok (u 33) w := hd 13 (by decide)
      rw [d33]
      exact Gv.run (.string ⟨r.toArray⟩) rfl (run_conv rfl rfl (run_str w 22 5 Tryd.underlying22 Tryd.underlying5 (dst := 9) Tryd.underlying9 g33)) rfl
    refine ObsS.cons (fun u w hS hd => ?_) ?_
    · have d30 : u 30 = .bool true := hd 10 (by decide)
      rw [d30]
      have d32 : u 32 = .string ⟨r.toArray⟩ := hd 12 (by decide)
      rw [d32]
      have d34 : u 34 = .string ⟨r.toArray⟩ := hd 14 (by decide)
      rw [d34]
      exact Gv.run (.bool true) rfl (by go_simp) rfl
    refine ObsS.cons (fun u w hS hd => ?_) ?_
    · have d30 : u 30 = .bool true := hd 10 (by decide)
      rw [d30]
      have d35 : u 35 = .bool true := hd 15 (by decide)
      rw [d35]
      exact Gv.run (.bool true) rfl (by go_simp) rfl
    refine ObsS.cons (fun u w hS hd => ?_) ?_
    · have d36 : u 36 = .bool true := hd 16 (by decide)
      rw [d36]
      exact Gv.run (.bool true) rfl (by go_simp) rfl
    refine ObsS.cons (fun u w hS hd => ?_) ?_
    · have d37 : u 37 = .bool true := hd 17 (by decide)
      rw [d37]
      refine Gv.call 10 #[] rfl (by go_simp) ((awake11 w (HG.out w hS)).mono ?_)
      rintro e w' ⟨rfl, hb⟩
      exact ⟨_, rfl, rfl, hb⟩
    exact ObsS.nil
  intro u wz hS hd
  have d37 : u 37 = .bool true := hd 17 (by decide)
  rw [d37]
  have d38 : u 38 = .bool true := hd 18 (by decide)
  rw [d38]
  clear hd d37 d38
  simp only [List.drop_succ_cons, List.drop_zero]
  have hfin := hc.trans (hS.mono hc.size)
  go_wp2_with fail
  go_ret
  exact ⟨rfl, hfin⟩
end
theorem cuts_w (w : World) (hG : GlbP w) {A : Option Addr} {c : Nat} {r : List UInt8} (r0 : Rd w w.heap.size A c r) (hl : r.length ≤ 140737488351232) :
    Calls Tryd.prog 3 #[.slice A r.length c] w fun e w' => e = .returned (.bool true) ∧ Below w.heap.size w w' := cuts_law (by omega) w hG r0
end Go.Proofs.YtfpojgclebaffaaDoor
