/-
  Layer 15, the landed code: Has, own. By an AI agent.
-/
import Derived.Test.YtljciakgdpihdaaFu3
namespace Go.Proofs.Ytljciakgdpihdaa
open Go Go.RowKit
set_option maxRecDepth 20000
set_option maxHeartbeats 1600000 in
theorem has_any {w : World} {T M : Nat} {ad : IDt → Nat} {L : List Ins} {G : List IDt} (h : TreeH w T M ad L G) (i : IDt) :
    Calls Try.prog 25 #[pB T, idV i] w fun e w' => e = .returned (.bool (hasB L i)) ∧ Below w.heap.size w w' := by
  obtain ⟨v1, ev⟩ : ∃ v, v = w.alloc (.cells #[.int .i64 i.1, .int .i64 i.2] 31) := ⟨_, rfl⟩
  obtain ⟨g, eg⟩ : ∃ g, g = w.heap.size := ⟨_, rfl⟩
  have hb : Below w.heap.size w v1 := by rw [ev]; exact (Below.refl _ _).alloc (Nat.le_refl _) _
  have hs : v1.heap.size = g + 1 := by rw [ev, eg]; simp
  have hq : v1.cell? ⟨g, 0, none⟩ = some (.int .i64 i.1) ∧ v1.cell? ⟨g, 1, none⟩ = some (.int .i64 i.2) := by
    rw [ev, eg]
    simp
  have HB := Lib.hid hb
  have HV := Lib.hid (And.intro ev eg)
  have HS0 := Lib.hid (fun wz (hz : Below v1.heap.size v1 wz) => show wz.cell? ⟨T, 0, none⟩ = some (.map (some M)) ∧ wz.cell? ⟨g, 0, none⟩ = some (.int .i64 i.1) ∧ wz.cell? ⟨g, 1, none⟩ = some (.int .i64 i.2) ∧ (Instr.lookup 72 (.map (some M)) (idV i) false).run Try.prog wz = .ok (ptL ad L i) wz from by
    have h2 := h.below (hb.trans (hz.mono hb.size))
    have hg : g < v1.heap.size := by omega
    exact ⟨h2.cells.1, (hz.cell (p := ⟨g, 0, none⟩) hg).trans hq.1, (hz.cell (p := ⟨g, 1, none⟩) hg).trans hq.2, h2.look i⟩)
  have hok := h.ok
  clear hb hs hq ev eg h
  go_enter Try.func25, Try.ntmps25
  go_upto_region 1 with fail
  rw [← HV.out.1, ← HV.out.2]
  clear HV
  by_cases hi : i = (0, 0)
  · have HI := Lib.hid (show hasB L i = false by
      rw [hi]
      cases hk : hasB L (0, 0) with
      | false => rfl
      | true => obtain ⟨y, hy, e⟩ := hasB_iff.1 hk; exact absurd e (hok.nz y hy))
    have hi1 : i.1 = 0 := by rw [hi]
    have hi2 : i.2 = 0 := by rw [hi]
    have HS := HS0
    clear hi hok HS0
    · refine wp_region_inv 16 [5, 6, 7, 8, 9, 10, 11, 12, 13, 14, 15, 16, 17, 18, 19, 20] [.val (.pointer (some ⟨T, 0, none⟩)), .val (.bool true), .val (.bool true), .val (.agg #[.int .i64 i.1, .int .i64 i.2]), .val (.agg #[.int .i64 0, .int .i64 0]), .val (.bool false), .val (.bool false), .val (.bool false), .val undef, .val undef, .val undef, .val undef, .val undef, .val undef, .val undef, .val (.bool false)] (fun wz => Below v1.heap.size v1 wz) (by kernel_rfl) (by kernel_rfl) (fun wz wz' hz hb => hz.trans (hb.mono hz.size)) ((Below.refl _ _).drew) (fun u => by simp only [puts, List.foldl_cons, List.foldl_nil]; go_simp; exact rfl) ?_ ?_
      · simp only [List.take_succ_cons, List.take_zero]
        refine Obs.cons (fun u w hS hd => ?_) ?_
        · exact Gv.run (.pointer (some ⟨T, 0, none⟩)) rfl (by go_simp) rfl
        refine Obs.cons (fun u w hS hd => ?_) ?_
        · have d5 : u 5 = .pointer (some ⟨T, 0, none⟩) := dep hd 0 rfl
          rw [d5]
          exact Gv.run (.bool true) rfl (by go_simp) rfl
        refine Obs.cons (fun u w hS hd => ?_) ?_
        · have d6 : u 6 = .bool true := dep hd 1 rfl
          rw [d6]
          exact Gv.run (.bool true) rfl (by go_simp) rfl
        refine Obs.cons (fun u w hS hd => ?_) ?_
        · have d7 : u 7 = .bool true := dep hd 2 rfl
          rw [d7]
          exact Gv.run (.agg #[.int .i64 i.1, .int .i64 i.2]) rfl (by obtain ⟨k0, k1, k2, k3⟩ := HS.out w hS; go_simp) rfl
        refine Obs.cons (fun u w hS hd => ?_) ?_
        · have d7 : u 7 = .bool true := dep hd 2 rfl
          rw [d7]
          exact Gv.run (.agg #[.int .i64 0, .int .i64 0]) rfl (by go_simp) rfl
        refine Obs.cons (fun u w hS hd => ?_) ?_
        · have d8 : u 8 = .agg #[.int .i64 i.1, .int .i64 i.2] := dep hd 3 rfl
          have d9 : u 9 = .agg #[.int .i64 0, .int .i64 0] := dep hd 4 rfl
          have d7 : u 7 = .bool true := dep hd 2 rfl
          rw [d8, d9, d7]
          exact Gv.run (.bool false) rfl (by go_simp) rfl
        refine Obs.cons (fun u w hS hd => ?_) ?_
        · have d7 : u 7 = .bool true := dep hd 2 rfl
          have d10 : u 10 = .bool false := dep hd 5 rfl
          rw [d7, d10]
          exact Gv.run (.bool false) rfl (by go_simp) rfl
        refine Obs.cons (fun u w hS hd => ?_) ?_
        · have d11 : u 11 = .bool false := dep hd 6 rfl
          rw [d11]
          exact Gv.run (.bool false) rfl (by go_simp) rfl
        refine Obs.cons (fun u w hS hd => ?_) ?_
        · have d12 : u 12 = .bool false := dep hd 7 rfl
          rw [d12]
          exact Gv.skip (by rfl) rfl
        refine Obs.cons (fun u w hS hd => ?_) ?_
        · have d13 : u 13 = undef := dep hd 8 rfl
          have d12 : u 12 = .bool false := dep hd 7 rfl
          rw [d13, d12]
          exact Gv.skip (by rfl) rfl
        refine Obs.cons (fun u w hS hd => ?_) ?_
        · have d14 : u 14 = undef := dep hd 9 rfl
          have d12 : u 12 = .bool false := dep hd 7 rfl
          rw [d14, d12]
          exact Gv.skip (by rfl) rfl
        refine Obs.cons (fun u w hS hd => ?_) ?_
        · have d15 : u 15 = undef := dep hd 10 rfl
          have d12 : u 12 = .bool false := dep hd 7 rfl
          rw [d15, d12]
          exact Gv.skip (by rfl) rfl
        refine Obs.cons (fun u w hS hd => ?_) ?_
        · have d12 : u 12 = .bool false := dep hd 7 rfl
          rw [d12]
          exact Gv.skip (by rfl) rfl
        refine Obs.cons (fun u w hS hd => ?_) ?_
        · have d16 : u 16 = undef := dep hd 11 rfl
          have d17 : u 17 = undef := dep hd 12 rfl
          have d12 : u 12 = .bool false := dep hd 7 rfl
          rw [d16, d17, d12]
          exact Gv.skip (by rfl) rfl
        refine Obs.cons (fun u w hS hd => ?_) ?_
        · have d18 : u 18 = undef := dep hd 13 rfl
          have d12 : u 12 = .bool false := dep hd 7 rfl
          rw [d18, d12]
          exact Gv.skip (by rfl) rfl
        refine Obs.cons (fun u w hS hd => ?_) ?_
        · have d12 : u 12 = .bool false := dep hd 7 rfl
          have d19 : u 19 = undef := dep hd 14 rfl
          rw [d12, d19]
          exact Gv.run (.bool false) rfl (by go_simp) rfl
        exact Obs.nil
      intro u v3 hS hd
      have d20 : u 20 = .bool false := hd 15 (by decide)
      rw [d20]
      simp only [List.drop_succ_cons, List.drop_zero]
      have HB3 := Lib.hid (HB.out.trans (hS.mono HB.out.size))
      clear hS hd d20
      go_wp2_with fail
      go_ret
      exact ⟨by rw [HI.out]; rfl, HB3.out⟩
  · have hne : ¬ (i.1 = 0 ∧ i.2 = 0) := fun h => hi (Prod.ext h.1 h.2)
    by_cases hh : hasB L i = true
    · obtain ⟨q, eq⟩ : ∃ q, q = ad i := ⟨_, rfl⟩
      have HS := Lib.hid (fun wz hz => by have h5 := HS0.out wz hz; unfold ptL at h5; rw [if_pos (.inr hh), ← eq] at h5; exact h5)
      have HI := Lib.hid hh
      clear hi hok HS0 hh eq
      refine wp_region_inv 16 [5, 6, 7, 8, 9, 10, 11, 12, 13, 14, 15, 16, 17, 18, 19, 20] [.val (.pointer (some ⟨T, 0, none⟩)), .val (.bool true), .val (.bool true), .val (.agg #[.int .i64 i.1, .int .i64 i.2]), .val (.agg #[.int .i64 0, .int .i64 0]), .val (.bool true), .val (.bool true), .val (.bool true), .val (.pointer (some ⟨T, 0, none⟩)), .val (.pointer (some ⟨T, 0, none⟩)), .val (.pointer (some ⟨T, 0, none⟩)), .val (.map (some M)), .val (.agg #[.int .i64 i.1, .int .i64 i.2]), .val (.pointer (some ⟨q, 0, none⟩)), .val (.bool true), .val (.bool true)] (fun wz => Below v1.heap.size v1 wz) (by kernel_rfl) (by kernel_rfl) (fun wz wz' hz hb => hz.trans (hb.mono hz.size)) ((Below.refl _ _).drew) (fun u => by simp only [puts, List.foldl_cons, List.foldl_nil]; go_simp; exact rfl) ?_ ?_
      · simp only [List.take_succ_cons, List.take_zero]
        refine Obs.cons (fun u w hS hd => ?_) ?_
        · exact Gv.run (.pointer (some ⟨T, 0, none⟩)) rfl (by go_simp) rfl
        refine Obs.cons (fun u w hS hd => ?_) ?_
        · have d5 : u 5 = .pointer (some ⟨T, 0, none⟩) := dep hd 0 rfl
          rw [d5]
          exact Gv.run (.bool true) rfl (by go_simp) rfl
        refine Obs.cons (fun u w hS hd => ?_) ?_
        · have d6 : u 6 = .bool true := dep hd 1 rfl
          rw [d6]
          exact Gv.run (.bool true) rfl (by go_simp) rfl
        refine Obs.cons (fun u w hS hd => ?_) ?_
        · have d7 : u 7 = .bool true := dep hd 2 rfl
          rw [d7]
          exact Gv.run (.agg #[.int .i64 i.1, .int .i64 i.2]) rfl (by obtain ⟨k0, k1, k2, k3⟩ := HS.out w hS; go_simp) rfl
        refine Obs.cons (fun u w hS hd => ?_) ?_
        · have d7 : u 7 = .bool true := dep hd 2 rfl
          rw [d7]
          exact Gv.run (.agg #[.int .i64 0, .int .i64 0]) rfl (by go_simp) rfl
        refine Obs.cons (fun u w hS hd => ?_) ?_
        · have d8 : u 8 = .agg #[.int .i64 i.1, .int .i64 i.2] := dep hd 3 rfl
          have d9 : u 9 = .agg #[.int .i64 0, .int .i64 0] := dep hd 4 rfl
          have d7 : u 7 = .bool true := dep hd 2 rfl
          rw [d8, d9, d7]
          exact Gv.run (.bool true) rfl (by go_simp; exact fun h1 h2 => hne ⟨h1, h2⟩) rfl
        refine Obs.cons (fun u w hS hd => ?_) ?_
        · have d7 : u 7 = .bool true := dep hd 2 rfl
          have d10 : u 10 = .bool true := dep hd 5 rfl
          rw [d7, d10]
          exact Gv.run (.bool true) rfl (by go_simp) rfl
        refine Obs.cons (fun u w hS hd => ?_) ?_
        · have d11 : u 11 = .bool true := dep hd 6 rfl
          rw [d11]
          exact Gv.run (.bool true) rfl (by go_simp) rfl
        refine Obs.cons (fun u w hS hd => ?_) ?_
        · have d12 : u 12 = .bool true := dep hd 7 rfl
          rw [d12]
          exact Gv.run (.pointer (some ⟨T, 0, none⟩)) rfl (by go_simp) rfl
        refine Obs.cons (fun u w hS hd => ?_) ?_
        · have d13 : u 13 = .pointer (some ⟨T, 0, none⟩) := dep hd 8 rfl
          have d12 : u 12 = .bool true := dep hd 7 rfl
          rw [d13, d12]
          exact Gv.run (.pointer (some ⟨T, 0, none⟩)) rfl (by go_simp) rfl
        refine Obs.cons (fun u w hS hd => ?_) ?_
        · have d14 : u 14 = .pointer (some ⟨T, 0, none⟩) := dep hd 9 rfl
          have d12 : u 12 = .bool true := dep hd 7 rfl
          rw [d14, d12]
          exact Gv.run (.pointer (some ⟨T, 0, none⟩)) rfl (by go_simp) rfl
        refine Obs.cons (fun u w hS hd => ?_) ?_
        · have d15 : u 15 = .pointer (some ⟨T, 0, none⟩) := dep hd 10 rfl
          have d12 : u 12 = .bool true := dep hd 7 rfl
          rw [d15, d12]
          exact Gv.run (.map (some M)) rfl (by obtain ⟨k0, k1, k2, k3⟩ := HS.out w hS; go_simp) rfl
        refine Obs.cons (fun u w hS hd => ?_) ?_
        · have d12 : u 12 = .bool true := dep hd 7 rfl
          rw [d12]
          exact Gv.run (.agg #[.int .i64 i.1, .int .i64 i.2]) rfl (by obtain ⟨k0, k1, k2, k3⟩ := HS.out w hS; go_simp) rfl
        refine Obs.cons (fun u w hS hd => ?_) ?_
        · have d16 : u 16 = .map (some M) := dep hd 11 rfl
          have d17 : u 17 = .agg #[.int .i64 i.1, .int .i64 i.2] := dep hd 12 rfl
          have d12 : u 12 = .bool true := dep hd 7 rfl
          rw [d16, d17, d12]
          exact Gv.run (.pointer (some ⟨q, 0, none⟩)) rfl (by obtain ⟨k0, k1, k2, k3⟩ := HS.out w hS; go_simp) rfl
        refine Obs.cons (fun u w hS hd => ?_) ?_
        · have d18 : u 18 = .pointer (some ⟨q, 0, none⟩) := dep hd 13 rfl
          have d12 : u 12 = .bool true := dep hd 7 rfl
          rw [d18, d12]
          exact Gv.run (.bool true) rfl (by go_simp) rfl
        refine Obs.cons (fun u w hS hd => ?_) ?_
        · have d12 : u 12 = .bool true := dep hd 7 rfl
          have d19 : u 19 = .bool true := dep hd 14 rfl
          rw [d12, d19]
          exact Gv.run (.bool true) rfl (by go_simp) rfl
        exact Obs.nil
      intro u v3 hS hd
      have d20 : u 20 = .bool true := hd 15 (by decide)
      rw [d20]
      simp only [List.drop_succ_cons, List.drop_zero]
      have HB3 := Lib.hid (HB.out.trans (hS.mono HB.out.size))
      clear hS hd d20
      go_wp2_with fail
      go_ret
      exact ⟨by rw [HI.out]; rfl, HB3.out⟩
    · have hf : hasB L i = false := by cases h : hasB L i <;> simp_all
      have HS := Lib.hid (fun wz hz => by have h5 := HS0.out wz hz; unfold ptL at h5; rw [if_neg (fun h => by rcases h with h | h; exact hi h; exact hh h)] at h5; exact h5)
      have HI := Lib.hid hf
      clear hi hok HS0 hh hf
      refine wp_region_inv 16 [5, 6, 7, 8, 9, 10, 11, 12, 13, 14, 15, 16, 17, 18, 19, 20] [.val (.pointer (some ⟨T, 0, none⟩)), .val (.bool true), .val (.bool true), .val (.agg #[.int .i64 i.1, .int .i64 i.2]), .val (.agg #[.int .i64 0, .int .i64 0]), .val (.bool true), .val (.bool true), .val (.bool true), .val (.pointer (some ⟨T, 0, none⟩)), .val (.pointer (some ⟨T, 0, none⟩)), .val (.pointer (some ⟨T, 0, none⟩)), .val (.map (some M)), .val (.agg #[.int .i64 i.1, .int .i64 i.2]), .val (.pointer none), .val (.bool false), .val (.bool false)] (fun wz => Below v1.heap.size v1 wz) (by kernel_rfl) (by kernel_rfl) (fun wz wz' hz hb => hz.trans (hb.mono hz.size)) ((Below.refl _ _).drew) (fun u => by simp only [puts, List.foldl_cons, List.foldl_nil]; go_simp; exact rfl) ?_ ?_
      · simp only [List.take_succ_cons, List.take_zero]
        refine Obs.cons (fun u w hS hd => ?_) ?_
        · exact Gv.run (.pointer (some ⟨T, 0, none⟩)) rfl (by go_simp) rfl
        refine Obs.cons (fun u w hS hd => ?_) ?_
        · have d5 : u 5 = .pointer (some ⟨T, 0, none⟩) := dep hd 0 rfl
          rw [d5]
          exact Gv.run (.bool true) rfl (by go_simp) rfl
        refine Obs.cons (fun u w hS hd => ?_) ?_
        · have d6 : u 6 = .bool true := dep hd 1 rfl
          rw [d6]
          exact Gv.run (.bool true) rfl (by go_simp) rfl
        refine Obs.cons (fun u w hS hd => ?_) ?_
        · have d7 : u 7 = .bool true := dep hd 2 rfl
          rw [d7]
          exact Gv.run (.agg #[.int .i64 i.1, .int .i64 i.2]) rfl (by obtain ⟨k0, k1, k2, k3⟩ := HS.out w hS; go_simp) rfl
        refine Obs.cons (fun u w hS hd => ?_) ?_
        · have d7 : u 7 = .bool true := dep hd 2 rfl
          rw [d7]
          exact Gv.run (.agg #[.int .i64 0, .int .i64 0]) rfl (by go_simp) rfl
        refine Obs.cons (fun u w hS hd => ?_) ?_
        · have d8 : u 8 = .agg #[.int .i64 i.1, .int .i64 i.2] := dep hd 3 rfl
          have d9 : u 9 = .agg #[.int .i64 0, .int .i64 0] := dep hd 4 rfl
          have d7 : u 7 = .bool true := dep hd 2 rfl
          rw [d8, d9, d7]
          exact Gv.run (.bool true) rfl (by go_simp; exact fun h1 h2 => hne ⟨h1, h2⟩) rfl
        refine Obs.cons (fun u w hS hd => ?_) ?_
        · have d7 : u 7 = .bool true := dep hd 2 rfl
          have d10 : u 10 = .bool true := dep hd 5 rfl
          rw [d7, d10]
          exact Gv.run (.bool true) rfl (by go_simp) rfl
        refine Obs.cons (fun u w hS hd => ?_) ?_
        · have d11 : u 11 = .bool true := dep hd 6 rfl
          rw [d11]
          exact Gv.run (.bool true) rfl (by go_simp) rfl
        refine Obs.cons (fun u w hS hd => ?_) ?_
        · have d12 : u 12 = .bool true := dep hd 7 rfl
          rw [d12]
          exact Gv.run (.pointer (some ⟨T, 0, none⟩)) rfl (by go_simp) rfl
        refine Obs.cons (fun u w hS hd => ?_) ?_
        · have d13 : u 13 = .pointer (some ⟨T, 0, none⟩) := dep hd 8 rfl
          have d12 : u 12 = .bool true := dep hd 7 rfl
          rw [d13, d12]
          exact Gv.run (.pointer (some ⟨T, 0, none⟩)) rfl (by go_simp) rfl
        refine Obs.cons (fun u w hS hd => ?_) ?_
        · have d14 : u 14 = .pointer (some ⟨T, 0, none⟩) := dep hd 9 rfl
          have d12 : u 12 = .bool true := dep hd 7 rfl
          rw [d14, d12]
          exact Gv.run (.pointer (some ⟨T, 0, none⟩)) rfl (by go_simp) rfl
        refine Obs.cons (fun u w hS hd => ?_) ?_
        · have d15 : u 15 = .pointer (some ⟨T, 0, none⟩) := dep hd 10 rfl
          have d12 : u 12 = .bool true := dep hd 7 rfl
          rw [d15, d12]
          exact Gv.run (.map (some M)) rfl (by obtain ⟨k0, k1, k2, k3⟩ := HS.out w hS; go_simp) rfl
        refine Obs.cons (fun u w hS hd => ?_) ?_
        · have d12 : u 12 = .bool true := dep hd 7 rfl
          rw [d12]
          exact Gv.run (.agg #[.int .i64 i.1, .int .i64 i.2]) rfl (by obtain ⟨k0, k1, k2, k3⟩ := HS.out w hS; go_simp) rfl
        refine Obs.cons (fun u w hS hd => ?_) ?_
        · have d16 : u 16 = .map (some M) := dep hd 11 rfl
          have d17 : u 17 = .agg #[.int .i64 i.1, .int .i64 i.2] := dep hd 12 rfl
          have d12 : u 12 = .bool true := dep hd 7 rfl
          rw [d16, d17, d12]
          exact Gv.run (.pointer none) rfl (by obtain ⟨k0, k1, k2, k3⟩ := HS.out w hS; go_simp) rfl
        refine Obs.cons (fun u w hS hd => ?_) ?_
        · have d18 : u 18 = .pointer none := dep hd 13 rfl
          have d12 : u 12 = .bool true := dep hd 7 rfl
          rw [d18, d12]
          exact Gv.run (.bool false) rfl (by go_simp) rfl
        refine Obs.cons (fun u w hS hd => ?_) ?_
        · have d12 : u 12 = .bool true := dep hd 7 rfl
          have d19 : u 19 = .bool false := dep hd 14 rfl
          rw [d12, d19]
          exact Gv.run (.bool false) rfl (by go_simp) rfl
        exact Obs.nil
      intro u v3 hS hd
      have d20 : u 20 = .bool false := hd 15 (by decide)
      rw [d20]
      simp only [List.drop_succ_cons, List.drop_zero]
      have HB3 := Lib.hid (HB.out.trans (hS.mono HB.out.size))
      clear hS hd d20
      go_wp2_with fail
      go_ret
      exact ⟨by rw [HI.out]; rfl, HB3.out⟩
theorem has_nil (i : IDt) (w : World) : Calls Try.prog 25 #[.pointer none, idV i] w fun e w' => e = .returned (.bool false) ∧ Below w.heap.size w w' := by
  obtain ⟨v1, ev⟩ : ∃ v, v = w.alloc (.cells #[.int .i64 i.1, .int .i64 i.2] 31) := ⟨_, rfl⟩
  obtain ⟨g, eg⟩ : ∃ g, g = w.heap.size := ⟨_, rfl⟩
  have hb : Below w.heap.size w v1 := by rw [ev]; exact (Below.refl _ _).alloc (Nat.le_refl _) _
  have hs : v1.heap.size = g + 1 := by rw [ev, eg]; simp
  have hq : v1.cell? ⟨g, 0, none⟩ = some (.int .i64 i.1) ∧ v1.cell? ⟨g, 1, none⟩ = some (.int .i64 i.2) := by
    rw [ev, eg]
    simp
  have HB := Lib.hid hb
  have HV := Lib.hid (And.intro ev eg)
  clear hb hs hq ev eg
  go_enter Try.func25, Try.ntmps25
  go_upto_region 1 with fail
  rw [← HV.out.1, ← HV.out.2]
  clear HV
  refine wp_region_inv 16 [5, 6, 7, 8, 9, 10, 11, 12, 13, 14, 15, 16, 17, 18, 19, 20] [.val (.pointer none), .val (.bool false), .val (.bool false), .val undef, .val undef, .val undef, .val (.bool false), .val (.bool false), .val undef, .val undef, .val undef, .val undef, .val undef, .val undef, .val undef, .val (.bool false)] (fun wz => Below v1.heap.size v1 wz) (by kernel_rfl) (by kernel_rfl) (fun wz wz' hz hb => hz.trans (hb.mono hz.size)) ((Below.refl _ _).drew) (fun u => by simp only [puts, List.foldl_cons, List.foldl_nil]; go_simp; exact rfl) ?_ ?_
  · simp only [List.take_succ_cons, List.take_zero]
    refine Obs.cons (fun u w hS hd => ?_) ?_
    · exact Gv.run (.pointer none) rfl (by go_simp) rfl
    refine Obs.cons (fun u w hS hd => ?_) ?_
    · have d5 : u 5 = .pointer none := dep hd 0 rfl
      rw [d5]
      exact Gv.run (.bool false) rfl (by go_simp) rfl
    refine Obs.cons (fun u w hS hd => ?_) ?_
    · have d6 : u 6 = .bool false := dep hd 1 rfl
      rw [d6]
      exact Gv.run (.bool false) rfl (by go_simp) rfl
    refine Obs.cons (fun u w hS hd => ?_) ?_
    · have d7 : u 7 = .bool false := dep hd 2 rfl
      rw [d7]
      exact Gv.skip (by rfl) rfl
    refine Obs.cons (fun u w hS hd => ?_) ?_
    · have d7 : u 7 = .bool false := dep hd 2 rfl
      rw [d7]
      exact Gv.skip (by rfl) rfl
    refine Obs.cons (fun u w hS hd => ?_) ?_
    · have d8 : u 8 = undef := dep hd 3 rfl
      have d9 : u 9 = undef := dep hd 4 rfl
      have d7 : u 7 = .bool false := dep hd 2 rfl
      rw [d8, d9, d7]
      exact Gv.skip (by rfl) rfl
    refine Obs.cons (fun u w hS hd => ?_) ?_
    · have d7 : u 7 = .bool false := dep hd 2 rfl
      have d10 : u 10 = undef := dep hd 5 rfl
      rw [d7, d10]
      exact Gv.run (.bool false) rfl (by go_simp) rfl
    refine Obs.cons (fun u w hS hd => ?_) ?_
    · have d11 : u 11 = .bool false := dep hd 6 rfl
      rw [d11]
      exact Gv.run (.bool false) rfl (by go_simp) rfl
    refine Obs.cons (fun u w hS hd => ?_) ?_
    · have d12 : u 12 = .bool false := dep hd 7 rfl
      rw [d12]
      exact Gv.skip (by rfl) rfl
    refine Obs.cons (fun u w hS hd => ?_) ?_
    · have d13 : u 13 = undef := dep hd 8 rfl
      have d12 : u 12 = .bool false := dep hd 7 rfl
      rw [d13, d12]
      exact Gv.skip (by rfl) rfl
    refine Obs.cons (fun u w hS hd => ?_) ?_
    · have d14 : u 14 = undef := dep hd 9 rfl
      have d12 : u 12 = .bool false := dep hd 7 rfl
      rw [d14, d12]
      exact Gv.skip (by rfl) rfl
    refine Obs.cons (fun u w hS hd => ?_) ?_
    · have d15 : u 15 = undef := dep hd 10 rfl
      have d12 : u 12 = .bool false := dep hd 7 rfl
      rw [d15, d12]
      exact Gv.skip (by rfl) rfl
    refine Obs.cons (fun u w hS hd => ?_) ?_
    · have d12 : u 12 = .bool false := dep hd 7 rfl
      rw [d12]
      exact Gv.skip (by rfl) rfl
    refine Obs.cons (fun u w hS hd => ?_) ?_
    · have d16 : u 16 = undef := dep hd 11 rfl
      have d17 : u 17 = undef := dep hd 12 rfl
      have d12 : u 12 = .bool false := dep hd 7 rfl
      rw [d16, d17, d12]
      exact Gv.skip (by rfl) rfl
    refine Obs.cons (fun u w hS hd => ?_) ?_
    · have d18 : u 18 = undef := dep hd 13 rfl
      have d12 : u 12 = .bool false := dep hd 7 rfl
      rw [d18, d12]
      exact Gv.skip (by rfl) rfl
    refine Obs.cons (fun u w hS hd => ?_) ?_
    · have d12 : u 12 = .bool false := dep hd 7 rfl
      have d19 : u 19 = undef := dep hd 14 rfl
      rw [d12, d19]
      exact Gv.run (.bool false) rfl (by go_simp) rfl
    exact Obs.nil
  intro u v3 hS hd
  have d20 : u 20 = .bool false := hd 15 (by decide)
  rw [d20]
  simp only [List.drop_succ_cons, List.drop_zero]
  have HB3 := Lib.hid (HB.out.trans (hS.mono HB.out.size))
  clear hS hd d20
  go_wp2_with fail
  go_ret
  exact ⟨rfl, HB3.out⟩
theorem own_nil (T : Nat) (w : World) : Calls Try.prog 47 #[pB T, .pointer none] w fun e w' => e = .returned (.pointer none) ∧ w' = w := by
  go_enter Try.func47, Try.ntmps47
  go_wp2_with fail
  go_ret
  exact ⟨rfl, rfl⟩
theorem own_any {w : World} {T M b : Nat} {i : IDt} {v : Value} (c0 : w.cell? ⟨T, 0, none⟩ = some (.map (some M))) (x0 : w.cell? ⟨b, 0, none⟩ = some (.int .i64 i.1)) (x1 : w.cell? ⟨b, 1, none⟩ = some (.int .i64 i.2)) (hT : T < w.heap.size) (hb : b < w.heap.size)
    (hl : ∀ w', Below w.heap.size w w' → (Instr.lookup 72 (.map (some M)) (idV i) false).run Try.prog w' = .ok v w') :
    Calls Try.prog 47 #[pB T, pB b] w fun e w' => e = .returned v ∧ Below w.heap.size w w' := by
  have HS := Lib.hid (fun wz (hz : Below w.heap.size w wz) => show wz.cell? ⟨T, 0, none⟩ = some (.map (some M)) ∧ wz.cell? ⟨b, 0, none⟩ = some (.int .i64 i.1) ∧ wz.cell? ⟨b, 1, none⟩ = some (.int .i64 i.2) ∧ (Instr.lookup 72 (.map (some M)) (idV i) false).run Try.prog wz = .ok v wz from
    ⟨(hz.cell (p := ⟨T, 0, none⟩) hT).trans c0, (hz.cell (p := ⟨b, 0, none⟩) hb).trans x0, (hz.cell (p := ⟨b, 1, none⟩) hb).trans x1, hl wz hz⟩)
  clear c0 x0 x1 hT hb hl
  go_enter Try.func47, Try.ntmps47
  go_upto_region 3 with fail
  refine wp_region_inv 10 [7, 8, 9, 10, 11, 12, 13, 14, 15, 16] [.val (.pointer (some ⟨T, 0, none⟩)), .val (.pointer (some ⟨T, 0, none⟩)), .val (.pointer (some ⟨T, 0, none⟩)), .val (.map (some M)), .val (.pointer (some ⟨b, 0, none⟩)), .val (.pointer (some ⟨b, 0, none⟩)), .val (.pointer (some ⟨b, 0, none⟩)), .val (.pointer (some ⟨b, 0, none⟩)), .val (.agg #[.int .i64 i.1, .int .i64 i.2]), .val (v)] (fun wz => Below w.heap.size w wz) (by kernel_rfl) (by kernel_rfl) (fun wz wz' hz hb => hz.trans (hb.mono hz.size)) ((Below.refl _ _).drew) (fun u => by simp only [puts, List.foldl_cons, List.foldl_nil]; go_simp; exact rfl) ?_ ?_
  · simp only [List.take_succ_cons, List.take_zero]
    refine Obs.cons (fun u w hS hd => ?_) ?_
    · exact Gv.run (.pointer (some ⟨T, 0, none⟩)) rfl (by go_simp) rfl
    refine Obs.cons (fun u w hS hd => ?_) ?_
    · have d7 : u 7 = .pointer (some ⟨T, 0, none⟩) := dep hd 0 rfl
      rw [d7]
      exact Gv.run (.pointer (some ⟨T, 0, none⟩)) rfl (by go_simp) rfl
    refine Obs.cons (fun u w hS hd => ?_) ?_
    · have d8 : u 8 = .pointer (some ⟨T, 0, none⟩) := dep hd 1 rfl
      rw [d8]
      exact Gv.run (.pointer (some ⟨T, 0, none⟩)) rfl (by go_simp) rfl
    refine Obs.cons (fun u w hS hd => ?_) ?_
    · have d9 : u 9 = .pointer (some ⟨T, 0, none⟩) := dep hd 2 rfl
      rw [d9]
      exact Gv.run (.map (some M)) rfl (by obtain ⟨k0, k1, k2, k3⟩ := HS.out w hS; go_simp) rfl
    refine Obs.cons (fun u w hS hd => ?_) ?_
    · exact Gv.run (.pointer (some ⟨b, 0, none⟩)) rfl (by go_simp) rfl
    refine Obs.cons (fun u w hS hd => ?_) ?_
    · have d11 : u 11 = .pointer (some ⟨b, 0, none⟩) := dep hd 4 rfl
      rw [d11]
      exact Gv.run (.pointer (some ⟨b, 0, none⟩)) rfl (by go_simp) rfl
    refine Obs.cons (fun u w hS hd => ?_) ?_
    · have d12 : u 12 = .pointer (some ⟨b, 0, none⟩) := dep hd 5 rfl
      rw [d12]
      exact Gv.run (.pointer (some ⟨b, 0, none⟩)) rfl (by go_simp) rfl
    refine Obs.cons (fun u w hS hd => ?_) ?_
    · have d13 : u 13 = .pointer (some ⟨b, 0, none⟩) := dep hd 6 rfl
      rw [d13]
      exact Gv.run (.pointer (some ⟨b, 0, none⟩)) rfl (by go_simp) rfl
    refine Obs.cons (fun u w hS hd => ?_) ?_
    · have d14 : u 14 = .pointer (some ⟨b, 0, none⟩) := dep hd 7 rfl
      rw [d14]
      exact Gv.run (.agg #[.int .i64 i.1, .int .i64 i.2]) rfl (by obtain ⟨k0, k1, k2, k3⟩ := HS.out w hS; go_simp) rfl
    refine Obs.cons (fun u w hS hd => ?_) ?_
    · have d10 : u 10 = .map (some M) := dep hd 3 rfl
      have d15 : u 15 = .agg #[.int .i64 i.1, .int .i64 i.2] := dep hd 8 rfl
      rw [d10, d15]
      exact Gv.run (v) rfl (by obtain ⟨k0, k1, k2, k3⟩ := HS.out w hS; go_simp) rfl
    exact Obs.nil
  intro u v3 hS hd
  have d16 : u 16 = v := hd 9 (by decide)
  rw [d16]
  simp only [List.drop_succ_cons, List.drop_zero]
  have HB3 := Lib.hid hS
  clear hS hd d16
  go_wp2_with fail
  go_ret
  exact ⟨rfl, HB3.out⟩
end Go.Proofs.Ytljciakgdpihdaa
