/-
  Layer 10's laws: StreamQuarters. Written by tools/gen_y16.py. By an AI agent.
-/
import Derived.Test.YthbogplajbldaaaY15

namespace Go.Proofs.Ythbogplajbldaaa
open Go Go.RowKit
set_option maxRecDepth 20000
attribute [local irreducible] q4a
set_option maxHeartbeats 3200000 in
theorem quarters_law {q : Q4} (h : q.ok) (w : World) : Calls Try.prog 3 #[.agg #[.int .u32 (q.a : Int), .int .u32 (q.b : Int), .int .u32 (q.c : Int), .int .u32 (q.d : Int)]] w fun e w' => e = .returned (.bool true) ∧ Below w.heap.size w w' := by
  have KQ := Lib.hid (fun w => cQuarter_any h w)
  have KR := Lib.hid (fun w => quarter_any h w)
  obtain ⟨r, er⟩ : ∃ r, r = q.quarter := ⟨_, rfl⟩
  rw [← er] at KQ KR
  clear er h
  have ob := OwnF.lit (w := w) (B := w.heap.size) 23 (Nat.le_refl _) #[.int .u32 (q.a : Int), .int .u32 (q.b : Int), .int .u32 (q.c : Int), .int .u32 (q.d : Int)] 4 (q4v q) (by decide) (by rfl)
  have hc := (Below.refl w.heap.size w).alloc (Nat.le_refl _) (.cells #[.int .u32 (q.a : Int), .int .u32 (q.b : Int), .int .u32 (q.c : Int), .int .u32 (q.d : Int)] 23)
  go_enter Try.func3, Try.ntmps3
  go_upto_region 1 with fail
  obtain ⟨v1, e1⟩ : ∃ v, v = w.alloc (.cells #[.int .u32 (q.a : Int), .int .u32 (q.b : Int), .int .u32 (q.c : Int), .int .u32 (q.d : Int)] 23) := ⟨_, rfl⟩
  obtain ⟨gk, eg⟩ : ∃ g, g = w.heap.size := ⟨_, rfl⟩
  rw [← e1] at ob hc ⊢
  replace ob : OwnF v1 w.heap.size 23 (some ⟨gk, 0, none⟩) 4 4 (q4v q) := by rw [eg]; exact ob
  rw [show Value.pointer (some ⟨w.heap.size, 0, none⟩) = .pointer (some ⟨gk, 0, none⟩) by rw [eg]]
  clear e1 eg
  have k0 : v1.cell? ⟨gk, 0, none⟩ = some (.int .u32 (q.a : Int)) := OwnF.cell ob (k := 0) (by decide)
  have k1 : v1.cell? ⟨gk, 1, none⟩ = some (.int .u32 (q.b : Int)) := OwnF.cell ob (k := 1) (by decide)
  have k2 : v1.cell? ⟨gk, 2, none⟩ = some (.int .u32 (q.c : Int)) := OwnF.cell ob (k := 2) (by decide)
  have k3 : v1.cell? ⟨gk, 3, none⟩ = some (.int .u32 (q.d : Int)) := OwnF.cell ob (k := 3) (by decide)
  go_wp2_with fail
  go_at_call 8
  refine (KR.out v1).mono ?_
  rintro e v2 ⟨A, cr, rfl, orr, h0⟩
  clear k0 k1 k2 k3
  obtain ⟨gr, rfl⟩ := own_at0 orr (by decide)
  replace ob := OwnF.keep ob h0
  replace hc := hc.trans (h0.mono hc.size)
  have HB := Lib.hid (fun wz (hz : Below v2.heap.size v2 wz) => show wz.cell? ⟨gk, 0, none⟩ = some (.int .u32 (q.a : Int)) ∧ wz.cell? ⟨gk, 1, none⟩ = some (.int .u32 (q.b : Int)) ∧ wz.cell? ⟨gk, 2, none⟩ = some (.int .u32 (q.c : Int)) ∧ wz.cell? ⟨gk, 3, none⟩ = some (.int .u32 (q.d : Int)) from
    ⟨OwnF.cell (OwnF.keep ob hz) (k := 0) (by decide), OwnF.cell (OwnF.keep ob hz) (k := 1) (by decide), OwnF.cell (OwnF.keep ob hz) (k := 2) (by decide), OwnF.cell (OwnF.keep ob hz) (k := 3) (by decide)⟩)
  have HR := Lib.hid (fun wz (hz : Below v2.heap.size v2 wz) => show wz.cell? ⟨gr, 0, none⟩ = some (.int .u32 (r.a : Int)) ∧ wz.cell? ⟨gr, 1, none⟩ = some (.int .u32 (r.b : Int)) ∧ wz.cell? ⟨gr, 2, none⟩ = some (.int .u32 (r.c : Int)) ∧ wz.cell? ⟨gr, 3, none⟩ = some (.int .u32 (r.d : Int)) from
    ⟨OwnF.cell (OwnF.keep orr hz) (k := 0) (by decide), OwnF.cell (OwnF.keep orr hz) (k := 1) (by decide), OwnF.cell (OwnF.keep orr hz) (k := 2) (by decide), OwnF.cell (OwnF.keep orr hz) (k := 3) (by decide)⟩)
  clear ob orr h0 KR
  go_upto_region 2 with fail
  refine wp_region_inv 19 [13, 14, 15, 16, 17, 18, 19, 20, 21, 22, 23, 24, 25, 26, 27, 28, 29, 30, 31] [.val (q4a q), .val (q4a r), .val (.slice (some ⟨gr, 0, none⟩) 4 cr), .val (.pointer (some ⟨gr, 0, none⟩)), .val (.int .u32 (r.a : Int)), .val (.slice (some ⟨gr, 0, none⟩) 4 cr), .val (.pointer (some ⟨gr, 1, none⟩)), .val (.int .u32 (r.b : Int)), .val (.slice (some ⟨gr, 0, none⟩) 4 cr), .val (.pointer (some ⟨gr, 2, none⟩)), .val (.int .u32 (r.c : Int)), .val (.slice (some ⟨gr, 0, none⟩) 4 cr), .val (.pointer (some ⟨gr, 3, none⟩)), .val (.int .u32 (r.d : Int)), .val (q4a r), .val (.bool true), .val (.bool true), .val (.bool true), .val (.bool true)] (fun wz => Below v2.heap.size v2 wz) (by kernel_rfl) (by kernel_rfl) (fun wz wz' hz hb => hz.trans (hb.mono hz.size)) ((Below.refl _ _).drew) (fun u => by simp only [puts, List.foldl_cons, List.foldl_nil]; go_simp; exact rfl) ?_ ?_
  · simp only [List.take_succ_cons, List.take_zero]
    refine Obs.cons (fun u w hS hd => ?_) ?_
    · obtain ⟨k0, k1, k2, k3⟩ := HB.out w hS
      unfold q4a
      exact Gv.run (.agg #[.int .u32 (q.a : Int), .int .u32 (q.b : Int), .int .u32 (q.c : Int), .int .u32 (q.d : Int)]) rfl (by go_simp) rfl
    refine Obs.cons (fun u w hS hd => ?_) ?_
    · have d13 : u 13 = q4a q := dep hd 0 rfl
      rw [d13]
      refine Gv.call 9 #[q4a q] rfl (by go_simp) ((KQ.out w).mono ?_)
      rintro e w' ⟨rfl, hb⟩
      exact ⟨_, rfl, rfl, hb⟩
    refine Obs.cons (fun u w hS hd => ?_) ?_
    · exact Gv.run (.slice (some ⟨gr, 0, none⟩) 4 cr) rfl (by go_simp) rfl
    refine Obs.cons (fun u w hS hd => ?_) ?_
    · have d15 : u 15 = .slice (some ⟨gr, 0, none⟩) 4 cr := dep hd 2 rfl
      rw [d15]
      exact Gv.run (.pointer (some ⟨gr, 0, none⟩)) rfl (by go_simp) rfl
    refine Obs.cons (fun u w hS hd => ?_) ?_
    · have d16 : u 16 = .pointer (some ⟨gr, 0, none⟩) := dep hd 3 rfl
      rw [d16]
      obtain ⟨k0, k1, k2, k3⟩ := HR.out w hS
      exact Gv.run (.int .u32 (r.a : Int)) rfl (by go_simp) rfl
    refine Obs.cons (fun u w hS hd => ?_) ?_
    · exact Gv.run (.slice (some ⟨gr, 0, none⟩) 4 cr) rfl (by go_simp) rfl
    refine Obs.cons (fun u w hS hd => ?_) ?_
    · have d18 : u 18 = .slice (some ⟨gr, 0, none⟩) 4 cr := dep hd 5 rfl
      rw [d18]
      exact Gv.run (.pointer (some ⟨gr, 1, none⟩)) rfl (by go_simp) rfl
    refine Obs.cons (fun u w hS hd => ?_) ?_
    · have d19 : u 19 = .pointer (some ⟨gr, 1, none⟩) := dep hd 6 rfl
      rw [d19]
      obtain ⟨k0, k1, k2, k3⟩ := HR.out w hS
      exact Gv.run (.int .u32 (r.b : Int)) rfl (by go_simp) rfl
    refine Obs.cons (fun u w hS hd => ?_) ?_
    · exact Gv.run (.slice (some ⟨gr, 0, none⟩) 4 cr) rfl (by go_simp) rfl
    refine Obs.cons (fun u w hS hd => ?_) ?_
    · have d21 : u 21 = .slice (some ⟨gr, 0, none⟩) 4 cr := dep hd 8 rfl
      rw [d21]
      exact Gv.run (.pointer (some ⟨gr, 2, none⟩)) rfl (by go_simp) rfl
    refine Obs.cons (fun u w hS hd => ?_) ?_
    · have d22 : u 22 = .pointer (some ⟨gr, 2, none⟩) := dep hd 9 rfl
      rw [d22]
      obtain ⟨k0, k1, k2, k3⟩ := HR.out w hS
      exact Gv.run (.int .u32 (r.c : Int)) rfl (by go_simp) rfl
    refine Obs.cons (fun u w hS hd => ?_) ?_
    · exact Gv.run (.slice (some ⟨gr, 0, none⟩) 4 cr) rfl (by go_simp) rfl
    refine Obs.cons (fun u w hS hd => ?_) ?_
    · have d24 : u 24 = .slice (some ⟨gr, 0, none⟩) 4 cr := dep hd 11 rfl
      rw [d24]
      exact Gv.run (.pointer (some ⟨gr, 3, none⟩)) rfl (by go_simp) rfl
    refine Obs.cons (fun u w hS hd => ?_) ?_
    · have d25 : u 25 = .pointer (some ⟨gr, 3, none⟩) := dep hd 12 rfl
      rw [d25]
      obtain ⟨k0, k1, k2, k3⟩ := HR.out w hS
      exact Gv.run (.int .u32 (r.d : Int)) rfl (by go_simp) rfl
    refine Obs.cons (fun u w hS hd => ?_) ?_
    · have d17 : u 17 = .int .u32 (r.a : Int) := dep hd 4 rfl
      rw [d17]
      have d20 : u 20 = .int .u32 (r.b : Int) := dep hd 7 rfl
      rw [d20]
      have d23 : u 23 = .int .u32 (r.c : Int) := dep hd 10 rfl
      rw [d23]
      have d26 : u 26 = .int .u32 (r.d : Int) := dep hd 13 rfl
      rw [d26]
      unfold q4a
      exact Gv.run (.agg #[.int .u32 (r.a : Int), .int .u32 (r.b : Int), .int .u32 (r.c : Int), .int .u32 (r.d : Int)]) rfl (by go_simp) rfl
    refine Obs.cons (fun u w hS hd => ?_) ?_
    · have d14 : u 14 = q4a r := dep hd 1 rfl
      rw [d14]
      have d27 : u 27 = q4a r := dep hd 14 rfl
      rw [d27]
      exact Gv.run (.bool true) rfl (run_eqQ rfl rfl rfl w) rfl
    refine Obs.cons (fun u w hS hd => ?_) ?_
    · have d28 : u 28 = .bool true := dep hd 15 rfl
      rw [d28]
      exact Gv.run (.bool true) rfl (by go_simp) rfl
    refine Obs.cons (fun u w hS hd => ?_) ?_
    · have d29 : u 29 = .bool true := dep hd 16 rfl
      rw [d29]
      refine Gv.call 10 #[] rfl (by go_simp) ((awake10 w).mono ?_)
      rintro e w' ⟨rfl, hb⟩
      exact ⟨_, rfl, rfl, hb⟩
    refine Obs.cons (fun u w hS hd => ?_) ?_
    · have d29 : u 29 = .bool true := dep hd 16 rfl
      rw [d29]
      have d30 : u 30 = .bool true := dep hd 17 rfl
      rw [d30]
      exact Gv.run (.bool true) rfl (by go_simp) rfl
    exact Obs.nil
  intro u wz hS hd
  have d31 : u 31 = .bool true := hd 18 (by decide)
  rw [d31]
  clear hd d31
  simp only [List.drop_succ_cons, List.drop_zero]
  have hfin := hc.trans (hS.mono hc.size)
  go_wp2_with fail
  go_ret
  exact ⟨rfl, hfin⟩
end Go.Proofs.Ythbogplajbldaaa
