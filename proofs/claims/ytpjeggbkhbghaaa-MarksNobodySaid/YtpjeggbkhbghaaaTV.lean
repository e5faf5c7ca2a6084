/-
  Layer 15, the landed code: which of two names is less; what may be. By an AI agent. Layer 15, the landed code: Has, own. By an AI agent. Layer 15, the landed code: hang. By an AI agent. Layer 15, the landed code: Drop. By an AI agent. Layer 15, the landed code: New. By an AI agent.
-/
import Derived.Test.YtpjeggbkhbghaaaTZ
import Derived.Deep.LoopGhost
namespace Go.Proofs.Ytpjeggbkhbghaaa
open Go Go.RowKit
set_option maxRecDepth 20000
theorem cless_any (a b : IDt) (w : World) : Calls Try.prog 75 #[idV a, idV b] w fun e w' => e = .returned (.bool (idLt a b)) ∧ Below w.heap.size w w' := by
  have hb : Below w.heap.size w ((w.alloc (.cells #[.int .i64 a.1, .int .i64 a.2] 27)).alloc (.cells #[.int .i64 b.1, .int .i64 b.2] 27)) := ((Below.refl _ _).alloc (Nat.le_refl _) _).alloc (by simp) _
  have HB := Lib.hid hb
  clear hb
  by_cases h : a.1 < b.1
  · have HL := Lib.hid (show idLt a b = true by unfold idLt; rw [if_pos (by omega)]; exact decide_eq_true h)
    go_enter Try.func75, Try.ntmps75
    go_wp2_with fail
    go_ret
    rw [HL.out]
    exact ⟨rfl, HB.out⟩
  · by_cases h2 : a.1 = b.1
    · have HL := Lib.hid (show idLt a b = decide (a.2 < b.2) by unfold idLt; rw [if_neg (fun h' => h' h2)])
      have g1 : (a.1 == b.1) = true := by simp [h2]
      have HH := Lib.hid h2
      clear h2
      go_enter Try.func75, Try.ntmps75
      go_wp2_with fail
      go_ret
      rw [HL.out]
      exact ⟨rfl, HB.out⟩
    · have HL := Lib.hid (show idLt a b = false by unfold idLt; rw [if_pos h2]; exact decide_eq_false h)
      have g1 : (a.1 == b.1) = false := by simp [h2]
      clear h2
      go_enter Try.func75, Try.ntmps75
      go_wp2_with fail
      go_ret
      rw [HL.out]
      exact ⟨rfl, HB.out⟩
theorem valid_any (x : Ins) (w : World) : Calls Try.prog 74 #[.int .i32 x.rune] w fun e w' => e = .returned (.bool (lowOk x || highOk x)) ∧ w' = w := by
  by_cases h1 : 0 ≤ x.rune
  · by_cases h2 : x.rune < 55296
    · have HI := Lib.hid (show (lowOk x || highOk x) = true by unfold lowOk highOk; simp [h1, h2])
      go_enter Try.func74, Try.ntmps74
      go_wp2_with fail
      go_ret
      exact ⟨by rw [HI.out]; rfl, rfl⟩
    · by_cases h3 : 57343 < x.rune
      · by_cases h4 : x.rune ≤ 1114111
        · have HI := Lib.hid (show (lowOk x || highOk x) = true by unfold lowOk highOk; simp [h3, h4])
          go_enter Try.func74, Try.ntmps74
          go_wp2_with fail
          go_ret
          exact ⟨by rw [HI.out]; rfl, rfl⟩
        · have HI := Lib.hid (show (lowOk x || highOk x) = false by unfold lowOk highOk; simp [h2, h4])
          go_enter Try.func74, Try.ntmps74
          go_wp2_with fail
          go_ret
          exact ⟨by rw [HI.out]; rfl, rfl⟩
      · have HI := Lib.hid (show (lowOk x || highOk x) = false by unfold lowOk highOk; simp [h2, h3])
        go_enter Try.func74, Try.ntmps74
        go_wp2_with fail
        go_ret
        exact ⟨by rw [HI.out]; rfl, rfl⟩
  · have h3 : ¬ 57343 < x.rune := by omega
    have HI := Lib.hid (show (lowOk x || highOk x) = false by unfold lowOk highOk; simp [h1, h3])
    go_enter Try.func74, Try.ntmps74
    go_wp2_with fail
    go_ret
    exact ⟨by rw [HI.out]; rfl, rfl⟩
set_option maxHeartbeats 1600000 in
theorem may_any (x : Ins) (w : World) : Calls Try.prog 56 #[insV x] w fun e w' => e = .returned (.bool (rightB x)) ∧ Below w.heap.size w w' := by
  obtain ⟨v1, ev⟩ : ∃ v, v = w.alloc (.cells #[.int .i64 x.id.1, .int .i64 x.id.2, .int .i64 x.par.1, .int .i64 x.par.2, .bool x.right, .int .i32 x.rune] 74) := ⟨_, rfl⟩
  obtain ⟨g, eg⟩ : ∃ g, g = w.heap.size := ⟨_, rfl⟩
  have hb : Below w.heap.size w v1 := by rw [ev]; exact (Below.refl _ _).alloc (Nat.le_refl _) _
  have hq : v1.cell? ⟨g, 0, none⟩ = some (.int .i64 x.id.1) ∧ v1.cell? ⟨g, 1, none⟩ = some (.int .i64 x.id.2) ∧ v1.cell? ⟨g, 2, none⟩ = some (.int .i64 x.par.1) ∧ v1.cell? ⟨g, 3, none⟩ = some (.int .i64 x.par.2) ∧ v1.cell? ⟨g, 4, none⟩ = some (.bool x.right) ∧ v1.cell? ⟨g, 5, none⟩ = some (.int .i32 x.rune) := by
    rw [ev, eg]
    simp
  have HV := Lib.hid (And.intro ev eg)
  have HB := Lib.hid hb
  obtain ⟨q0, q1, q2, q3, q4, q5⟩ := hq
  clear ev eg hb
  obtain ⟨a1, ea1⟩ : ∃ q, q = x.id.1 := ⟨_, rfl⟩
  obtain ⟨a2, ea2⟩ : ∃ q, q = x.id.2 := ⟨_, rfl⟩
  rw [← ea1] at q0
  rw [← ea2] at q1
  have HA := Lib.hid (And.intro ea1 ea2)
  clear ea1 ea2
  have KV := Lib.hid (fun w => valid_any x w)
  go_enter Try.func56, Try.ntmps56
  go_upto_region 1 with fail
  rw [← HV.out.1, ← HV.out.2]
  clear HV
  have HQ5 := Lib.hid (And.intro q2 (And.intro q3 (And.intro q4 q5)))
  clear q2 q3 q4 q5
  go_quiet (fail)
  rename_i hK
  refine hK _ _ ?_
  obtain ⟨v2, ev2⟩ : ∃ v, v = v1.drewN nq := ⟨_, rfl⟩
  rw [← ev2]
  have HB2 := Lib.hid (show Below w.heap.size w v2 by rw [ev2]; exact HB.out.trans (Go.Proofs.Ytpjeggbkhbghaaa.below_drewN _ _))
  have hqq : v2.cell? ⟨g, 2, none⟩ = some (.int .i64 x.par.1) ∧ v2.cell? ⟨g, 3, none⟩ = some (.int .i64 x.par.2) ∧ v2.cell? ⟨g, 4, none⟩ = some (.bool x.right) ∧ v2.cell? ⟨g, 5, none⟩ = some (.int .i32 x.rune) := by rw [ev2]; exact HQ5.out
  obtain ⟨q2, q3, q4, q5⟩ := hqq
  clear ev2 HB q0 q1 hK HQ5
  by_cases h1 : 0 ≤ a1
  · by_cases h2 : a1 < 5
    · by_cases h3 : 1 ≤ a2
      · by_cases h4 : a2 ≤ 1099511627776
        · have HId := Lib.hid (show idOk x = true by unfold idOk; rw [← HA.out.1, ← HA.out.2]; simp [h1, h2, h3, h4])
          by_cases hv : (lowOk x || highOk x) = true
          · have HVd := Lib.hid hv
            clear hv
            obtain ⟨r, er⟩ : ∃ r, r = x.right := ⟨_, rfl⟩
            rw [← er] at q4
            have HR := Lib.hid (show rightB x = (r || decide (x.par ≠ (0, 0))) by unfold rightB; rw [HId.out, HVd.out, er]; simp)
            clear er
            cases r with
            | true =>
              have HI := Lib.hid (show rightB x = true by rw [HR.out]; rfl)
              clear HR
              go_wp2_with (go_at_call 74; refine (KV.out v2).mono ?_; rintro e wz ⟨rfl, hwz⟩; subst hwz; rw [HVd.out])
              go_ret
              exact ⟨by rw [HI.out]; rfl, HB2.out⟩
            | false =>
              by_cases h5 : x.par.1 = 0
              · by_cases h6 : x.par.2 = 0
                · have hp : x.par = (0, 0) := Prod.ext h5 h6
                  have HI := Lib.hid (show rightB x = false by rw [HR.out]; simp [hp])
                  rw [h5] at q2
                  rw [h6] at q3
                  clear h5 h6 hp HR
                  go_wp2_with (go_at_call 74; refine (KV.out v2).mono ?_; rintro e wz ⟨rfl, hwz⟩; subst hwz; rw [HVd.out])
                  go_ret
                  exact ⟨by rw [HI.out]; rfl, HB2.out⟩
                · have HI := Lib.hid (show rightB x = true by rw [HR.out, decide_eq_true (show x.par ≠ (0, 0) from fun h => h6 (by rw [h]))]; rfl)
                  rw [h5] at q2
                  clear h5 HR
                  go_wp2_with (go_at_call 74; refine (KV.out v2).mono ?_; rintro e wz ⟨rfl, hwz⟩; subst hwz; rw [HVd.out])
                  go_ret
                  exact ⟨by rw [HI.out]; rfl, HB2.out⟩
              · have HI := Lib.hid (show rightB x = true by rw [HR.out, decide_eq_true (show x.par ≠ (0, 0) from fun h => h5 (by rw [h]))]; rfl)
                clear HR
                go_wp2_with (go_at_call 74; refine (KV.out v2).mono ?_; rintro e wz ⟨rfl, hwz⟩; subst hwz; rw [HVd.out])
                go_ret
                exact ⟨by rw [HI.out]; rfl, HB2.out⟩
          · have hv' : (lowOk x || highOk x) = false := by cases h : (lowOk x || highOk x) <;> simp_all
            have HVd := Lib.hid hv'
            have HI := Lib.hid (show rightB x = false by unfold rightB; rw [hv']; simp)
            clear hv hv'
            go_wp2_with (go_at_call 74; refine (KV.out v2).mono ?_; rintro e wz ⟨rfl, hwz⟩; subst hwz; rw [HVd.out])
            go_ret
            exact ⟨by rw [HI.out]; rfl, HB2.out⟩
        · have HI := Lib.hid (show rightB x = false by unfold rightB idOk; rw [← HA.out.1, ← HA.out.2]; simp [h4])
          go_wp2_with fail
          go_ret
          exact ⟨by rw [HI.out]; rfl, HB2.out⟩
      · have HI := Lib.hid (show rightB x = false by unfold rightB idOk; rw [← HA.out.1, ← HA.out.2]; simp [h3])
        go_wp2_with fail
        go_ret
        exact ⟨by rw [HI.out]; rfl, HB2.out⟩
    · have HI := Lib.hid (show rightB x = false by unfold rightB idOk; rw [← HA.out.1, ← HA.out.2]; simp [h2])
      go_wp2_with fail
      go_ret
      exact ⟨by rw [HI.out]; rfl, HB2.out⟩
  · have HI := Lib.hid (show rightB x = false by unfold rightB idOk; rw [← HA.out.1, ← HA.out.2]; simp [h1])
    go_wp2_with fail
    go_ret
    exact ⟨by rw [HI.out]; rfl, HB2.out⟩
end Go.Proofs.Ytpjeggbkhbghaaa
namespace Go.Proofs.Ytpjeggbkhbghaaa
open Go Go.RowKit
set_option maxRecDepth 20000
set_option maxHeartbeats 1600000 in
theorem has_any {w : World} {T M : Nat} {ad : IDt → Nat} {L : List Ins} {G : List IDt} (h : TreeH w T M ad L G) (i : IDt) :
    Calls Try.prog 57 #[pB T, idV i] w fun e w' => e = .returned (.bool (hasB L i)) ∧ Below w.heap.size w w' := by
  obtain ⟨v1, ev⟩ : ∃ v, v = w.alloc (.cells #[.int .i64 i.1, .int .i64 i.2] 27) := ⟨_, rfl⟩
  obtain ⟨g, eg⟩ : ∃ g, g = w.heap.size := ⟨_, rfl⟩
  have hb : Below w.heap.size w v1 := by rw [ev]; exact (Below.refl _ _).alloc (Nat.le_refl _) _
  have hs : v1.heap.size = g + 1 := by rw [ev, eg]; simp
  have hq : v1.cell? ⟨g, 0, none⟩ = some (.int .i64 i.1) ∧ v1.cell? ⟨g, 1, none⟩ = some (.int .i64 i.2) := by
    rw [ev, eg]
    simp
  have HB := Lib.hid hb
  have HV := Lib.hid (And.intro ev eg)
  have HS0 := Lib.hid (fun wz (hz : Below v1.heap.size v1 wz) => show wz.cell? ⟨T, 0, none⟩ = some (.map (some M)) ∧ wz.cell? ⟨g, 0, none⟩ = some (.int .i64 i.1) ∧ wz.cell? ⟨g, 1, none⟩ = some (.int .i64 i.2) ∧ (Instr.lookup 111 (.map (some M)) (idV i) false).run Try.prog wz = .ok (ptL ad L i) wz from by
    have h2 := h.below (hb.trans (hz.mono hb.size))
    have hg : g < v1.heap.size := by omega
    exact ⟨h2.cells.1, (hz.cell (p := ⟨g, 0, none⟩) hg).trans hq.1, (hz.cell (p := ⟨g, 1, none⟩) hg).trans hq.2, h2.look i⟩)
  have hok := h.ok
  clear hb hs hq ev eg h
  go_enter Try.func57, Try.ntmps57
  go_upto_region 1 with fail
  rw [← HV.out.1, ← HV.out.2]
  clear HV
  by_cases hi : i = (0, 0)
  · have HI := Lib.hid (show hasB L i = false by
      rw [hi]
      cases hk : hasB L (0, 0) with
      | false => rfl
      | true => obtain ⟨y, hy, e⟩ := hasB_iff.1 hk; exact absurd e (hok.nz y hy))
    have hi1 : i.1 = 0 := by rw [hi]
    have hi2 : i.2 = 0 := by rw [hi]
    have HS := HS0
    clear hi hok HS0
    · refine wp_region_inv 16 [5, 6, 7, 8, 9, 10, 11, 12, 13, 14, 15, 16, 17, 18, 19, 20] [.val (.pointer (some ⟨T, 0, none⟩)), .val (.bool true), .val (.bool true), .val (.agg #[.int .i64 i.1, .int .i64 i.2]), .val (.agg #[.int .i64 0, .int .i64 0]), .val (.bool false), .val (.bool false), .val (.bool false), .val undef, .val undef, .val undef, .val undef, .val undef, .val undef, .val undef, .val (.bool false)] (fun wz => Below v1.heap.size v1 wz) (by kernel_rfl) (by kernel_rfl) (fun wz wz' hz hb => hz.trans (hb.mono hz.size)) ((Below.refl _ _).drew) (fun u => by simp only [puts, List.foldl_cons, List.foldl_nil]; go_simp; exact rfl) ?_ ?_
      · simp only [List.take_succ_cons, List.take_zero]
        refine Obs.cons (fun u w hS hd => ?_) ?_
        · exact Gv.run (.pointer (some ⟨T, 0, none⟩)) rfl (by go_simp) rfl
        refine Obs.cons (fun u w hS hd => ?_) ?_
        · have d5 : u 5 = .pointer (some ⟨T, 0, none⟩) := dep hd 0 rfl
          rw [d5]
          exact Gv.run (.bool true) rfl (by go_simp) rfl
        refine Obs.cons (fun u w hS hd => ?_) ?_
        · have d6 : u 6 = .bool true := dep hd 1 rfl
          rw [d6]
          exact Gv.run (.bool true) rfl (by go_simp) rfl
        refine Obs.cons (fun u w hS hd => ?_) ?_
        · have d7 : u 7 = .bool true := dep hd 2 rfl
          rw [d7]
          exact Gv.run (.agg #[.int .i64 i.1, .int .i64 i.2]) rfl (by obtain ⟨k0, k1, k2, k3⟩ := HS.out w hS; go_simp) rfl
        refine Obs.cons (fun u w hS hd => ?_) ?_
        · have d7 : u 7 = .bool true := dep hd 2 rfl
          rw [d7]
          exact Gv.run (.agg #[.int .i64 0, .int .i64 0]) rfl (by go_simp) rfl
        refine Obs.cons (fun u w hS hd => ?_) ?_
        · have d8 : u 8 = .agg #[.int .i64 i.1, .int .i64 i.2] := dep hd 3 rfl
          have d9 : u 9 = .agg #[.int .i64 0, .int .i64 0] := dep hd 4 rfl
          have d7 : u 7 = .bool true := dep hd 2 rfl
          rw [d8, d9, d7]
          exact Gv.run (.bool false) rfl (by go_simp) rfl
        refine Obs.cons (fun u w hS hd => ?_) ?_
        · have d7 : u 7 = .bool true := dep hd 2 rfl
          have d10 : u 10 = .bool false := dep hd 5 rfl
          rw [d7, d10]
          exact Gv.run (.bool false) rfl (by go_simp) rfl
        refine Obs.cons (fun u w hS hd => ?_) ?_
        · have d11 : u 11 = .bool false := dep hd 6 rfl
          rw [d11]
          exact Gv.run (.bool false) rfl (by go_simp) rfl
        refine Obs.cons (fun u w hS hd => ?_) ?_
        · have d12 : u 12 = .bool false := dep hd 7 rfl
          rw [d12]
          exact Gv.skip (by rfl) rfl
        refine Obs.cons (fun u w hS hd => ?_) ?_
        · have d13 : u 13 = undef := dep hd 8 rfl
          have d12 : u 12 = .bool false := dep hd 7 rfl
          rw [d13, d12]
          exact Gv.skip (by rfl) rfl
        refine Obs.cons (fun u w hS hd => ?_) ?_
        · have d14 : u 14 = undef := dep hd 9 rfl
          have d12 : u 12 = .bool false := dep hd 7 rfl
          rw [d14, d12]
          exact Gv.skip (by rfl) rfl
        refine Obs.cons (fun u w hS hd => ?_) ?_
        · have d15 : u 15 = undef := dep hd 10 rfl
          have d12 : u 12 = .bool false := dep hd 7 rfl
          rw [d15, d12]
          exact Gv.skip (by rfl) rfl
        refine Obs.cons (fun u w hS hd => ?_) ?_
        · have d12 : u 12 = .bool false := dep hd 7 rfl
          rw [d12]
          exact Gv.skip (by rfl) rfl
        refine Obs.cons (fun u w hS hd => ?_) ?_
        · have d16 : u 16 = undef := dep hd 11 rfl
          have d17 : u 17 = undef := dep hd 12 rfl
          have d12 : u 12 = .bool false := dep hd 7 rfl
          rw [d16, d17, d12]
          exact Gv.skip (by rfl) rfl
        refine Obs.cons (fun u w hS hd => ?_) ?_
        · have d18 : u 18 = undef := dep hd 13 rfl
          have d12 : u 12 = .bool false := dep hd 7 rfl
          rw [d18, d12]
          exact Gv.skip (by rfl) rfl
        refine Obs.cons (fun u w hS hd => ?_) ?_
        · have d12 : u 12 = .bool false := dep hd 7 rfl
          have d19 : u 19 = undef := dep hd 14 rfl
          rw [d12, d19]
          exact Gv.run (.bool false) rfl (by go_simp) rfl
        exact Obs.nil
      intro u v3 hS hd
      have d20 : u 20 = .bool false := hd 15 (by decide)
      rw [d20]
      simp only [List.drop_succ_cons, List.drop_zero]
      have HB3 := Lib.hid (HB.out.trans (hS.mono HB.out.size))
      clear hS hd d20
      go_wp2_with fail
      go_ret
      exact ⟨by rw [HI.out]; rfl, HB3.out⟩
  · have hne : ¬ (i.1 = 0 ∧ i.2 = 0) := fun h => hi (Prod.ext h.1 h.2)
    by_cases hh : hasB L i = true
    · obtain ⟨q, eq⟩ : ∃ q, q = ad i := ⟨_, rfl⟩
      have HS := Lib.hid (fun wz hz => by have h5 := HS0.out wz hz; unfold ptL at h5; rw [if_pos (.inr hh), ← eq] at h5; exact h5)
      have HI := Lib.hid hh
      clear hi hok HS0 hh eq
      refine wp_region_inv 16 [5, 6, 7, 8, 9, 10, 11, 12, 13, 14, 15, 16, 17, 18, 19, 20] [.val (.pointer (some ⟨T, 0, none⟩)), .val (.bool true), .val (.bool true), .val (.agg #[.int .i64 i.1, .int .i64 i.2]), .val (.agg #[.int .i64 0, .int .i64 0]), .val (.bool true), .val (.bool true), .val (.bool true), .val (.pointer (some ⟨T, 0, none⟩)), .val (.pointer (some ⟨T, 0, none⟩)), .val (.pointer (some ⟨T, 0, none⟩)), .val (.map (some M)), .val (.agg #[.int .i64 i.1, .int .i64 i.2]), .val (.pointer (some ⟨q, 0, none⟩)), .val (.bool true), .val (.bool true)] (fun wz => Below v1.heap.size v1 wz) (by kernel_rfl) (by kernel_rfl) (fun wz wz' hz hb => hz.trans (hb.mono hz.size)) ((Below.refl _ _).drew) (fun u => by simp only [puts, List.foldl_cons, List.foldl_nil]; go_simp; exact rfl) ?_ ?_
      · simp only [List.take_succ_cons, List.take_zero]
        refine Obs.cons (fun u w hS hd => ?_) ?_
        · exact Gv.run (.pointer (some ⟨T, 0, none⟩)) rfl (by go_simp) rfl
        refine Obs.cons (fun u w hS hd => ?_) ?_
        · have d5 : u 5 = .pointer (some ⟨T, 0, none⟩) := dep hd 0 rfl
          rw [d5]
          exact Gv.run (.bool true) rfl (by go_simp) rfl
        refine Obs.cons (fun u w hS hd => ?_) ?_
        · have d6 : u 6 = .bool true := dep hd 1 rfl
          rw [d6]
          exact Gv.run (.bool true) rfl (by go_simp) rfl
        refine Obs.cons (fun u w hS hd => ?_) ?_
        · have d7 : u 7 = .bool true := dep hd 2 rfl
          rw [d7]
          exact Gv.run (.agg #[.int .i64 i.1, .int .i64 i.2]) rfl (by obtain ⟨k0, k1, k2, k3⟩ := HS.out w hS; go_simp) rfl
        refine Obs.cons (fun u w hS hd => ?_) ?_
        · have d7 : u 7 = .bool true := dep hd 2 rfl
          rw [d7]
          exact Gv.run (.agg #[.int .i64 0, .int .i64 0]) rfl (by go_simp) rfl
        refine Obs.cons (fun u w hS hd => ?_) ?_
        · have d8 : u 8 = .agg #[.int .i64 i.1, .int .i64 i.2] := dep hd 3 rfl
          have d9 : u 9 = .agg #[.int .i64 0, .int .i64 0] := dep hd 4 rfl
          have d7 : u 7 = .bool true := dep hd 2 rfl
          rw [d8, d9, d7]
          exact Gv.run (.bool true) rfl (by go_simp; exact fun h1 h2 => hne ⟨h1, h2⟩) rfl
        refine Obs.cons (fun u w hS hd => ?_) ?_
        · have d7 : u 7 = .bool true := dep hd 2 rfl
          have d10 : u 10 = .bool true := dep hd 5 rfl
          rw [d7, d10]
          exact Gv.run (.bool true) rfl (by go_simp) rfl
        refine Obs.cons (fun u w hS hd => ?_) ?_
        · have d11 : u 11 = .bool true := dep hd 6 rfl
          rw [d11]
          exact Gv.run (.bool true) rfl (by go_simp) rfl
        refine Obs.cons (fun u w hS hd => ?_) ?_
        · have d12 : u 12 = .bool true := dep hd 7 rfl
          rw [d12]
          exact Gv.run (.pointer (some ⟨T, 0, none⟩)) rfl (by go_simp) rfl
        refine Obs.cons (fun u w hS hd => ?_) ?_
        · have d13 : u 13 = .pointer (some ⟨T, 0, none⟩) := dep hd 8 rfl
          have d12 : u 12 = .bool true := dep hd 7 rfl
          rw [d13, d12]
          exact Gv.run (.pointer (some ⟨T, 0, none⟩)) rfl (by go_simp) rfl
        refine Obs.cons (fun u w hS hd => ?_) ?_
        · have d14 : u 14 = .pointer (some ⟨T, 0, none⟩) := dep hd 9 rfl
          have d12 : u 12 = .bool true := dep hd 7 rfl
          rw [d14, d12]
          exact Gv.run (.pointer (some ⟨T, 0, none⟩)) rfl (by go_simp) rfl
        refine Obs.cons (fun u w hS hd => ?_) ?_
        · have d15 : u 15 = .pointer (some ⟨T, 0, none⟩) := dep hd 10 rfl
          have d12 : u 12 = .bool true := dep hd 7 rfl
          rw [d15, d12]
          exact Gv.run (.map (some M)) rfl (by obtain ⟨k0, k1, k2, k3⟩ := HS.out w hS; go_simp) rfl
        refine Obs.cons (fun u w hS hd => ?_) ?_
        · have d12 : u 12 = .bool true := dep hd 7 rfl
          rw [d12]
          exact Gv.run (.agg #[.int .i64 i.1, .int .i64 i.2]) rfl (by obtain ⟨k0, k1, k2, k3⟩ := HS.out w hS; go_simp) rfl
        refine Obs.cons (fun u w hS hd => ?_) ?_
        · have d16 : u 16 = .map (some M) := dep hd 11 rfl
          have d17 : u 17 = .agg #[.int .i64 i.1, .int .i64 i.2] := dep hd 12 rfl
          have d12 : u 12 = .bool true := dep hd 7 rfl
          rw [d16, d17, d12]
          exact Gv.run (.pointer (some ⟨q, 0, none⟩)) rfl (by obtain ⟨k0, k1, k2, k3⟩ := HS.out w hS; go_simp) rfl
        refine Obs.cons (fun u w hS hd => ?_) ?_
        · have d18 : u 18 = .pointer (some ⟨q, 0, none⟩) := dep hd 13 rfl
          have d12 : u 12 = .bool true := dep hd 7 rfl
          rw [d18, d12]
          exact Gv.run (.bool true) rfl (by go_simp) rfl
        refine Obs.cons (fun u w hS hd => ?_) ?_
        · have d12 : u 12 = .bool true := dep hd 7 rfl
          have d19 : u 19 = .bool true := dep hd 14 rfl
          rw [d12, d19]
          exact Gv.run (.bool true) rfl (by go_simp) rfl
        exact Obs.nil
      intro u v3 hS hd
      have d20 : u 20 = .bool true := hd 15 (by decide)
      rw [d20]
      simp only [List.drop_succ_cons, List.drop_zero]
      have HB3 := Lib.hid (HB.out.trans (hS.mono HB.out.size))
      clear hS hd d20
      go_wp2_with fail
      go_ret
      exact ⟨by rw [HI.out]; rfl, HB3.out⟩
    · have hf : hasB L i = false := by cases h : hasB L i <;> simp_all
      have HS := Lib.hid (fun wz hz => by have h5 := HS0.out wz hz; unfold ptL at h5; rw [if_neg (fun h => by rcases h with h | h; exact hi h; exact hh h)] at h5; exact h5)
      have HI := Lib.hid hf
      clear hi hok HS0 hh hf
      refine wp_region_inv 16 [5, 6, 7, 8, 9, 10, 11, 12, 13, 14, 15, 16, 17, 18, 19, 20] [.val (.pointer (some ⟨T, 0, none⟩)), .val (.bool true), .val (.bool true), .val (.agg #[.int .i64 i.1, .int .i64 i.2]), .val (.agg #[.int .i64 0, .int .i64 0]), .val (.bool true), .val (.bool true), .val (.bool true), .val (.pointer (some ⟨T, 0, none⟩)), .val (.pointer (some ⟨T, 0, none⟩)), .val (.pointer (some ⟨T, 0, none⟩)), .val (.map (some M)), .val (.agg #[.int .i64 i.1, .int .i64 i.2]), .val (.pointer none), .val (.bool false), .val (.bool false)] (fun wz => Below v1.heap.size v1 wz) (by kernel_rfl) (by kernel_rfl) (fun wz wz' hz hb => hz.trans (hb.mono hz.size)) ((Below.refl _ _).drew) (fun u => by simp only [puts, List.foldl_cons, List.foldl_nil]; go_simp; exact rfl) ?_ ?_
      · simp only [List.take_succ_cons, List.take_zero]
        refine Obs.cons (fun u w hS hd => ?_) ?_
        · exact Gv.run (.pointer (some ⟨T, 0, none⟩)) rfl (by go_simp) rfl
        refine Obs.cons (fun u w hS hd => ?_) ?_
        · have d5 : u 5 = .pointer (some ⟨T, 0, none⟩) := dep hd 0 rfl
          rw [d5]
          exact Gv.run (.bool true) rfl (by go_simp) rfl
        refine Obs.cons (fun u w hS hd => ?_) ?_
        · have d6 : u 6 = .bool true := dep hd 1 rfl
          rw [d6]
          exact Gv.run (.bool true) rfl (by go_simp) rfl
        refine Obs.cons (fun u w hS hd => ?_) ?_
        · have d7 : u 7 = .bool true := dep hd 2 rfl
          rw [d7]
          exact Gv.run (.agg #[.int .i64 i.1, .int .i64 i.2]) rfl (by obtain ⟨k0, k1, k2, k3⟩ := HS.out w hS; go_simp) rfl
        refine Obs.cons (fun u w hS hd => ?_) ?_
        · have d7 : u 7 = .bool true := dep hd 2 rfl
          rw [d7]
          exact Gv.run (.agg #[.int .i64 0, .int .i64 0]) rfl (by go_simp) rfl
        refine Obs.cons (fun u w hS hd => ?_) ?_
        · have d8 : u 8 = .agg #[.int .i64 i.1, .int .i64 i.2] := dep hd 3 rfl
          have d9 : u 9 = .agg #[.int .i64 0, .int .i64 0] := dep hd 4 rfl
          have d7 : u 7 = .bool true := dep hd 2 rfl
          rw [d8, d9, d7]
          exact Gv.run (.bool true) rfl (by go_simp; exact fun h1 h2 => hne ⟨h1, h2⟩) rfl
        refine Obs.cons (fun u w hS hd => ?_) ?_
        · have d7 : u 7 = .bool true := dep hd 2 rfl
          have d10 : u 10 = .bool true := dep hd 5 rfl
          rw [d7, d10]
          exact Gv.run (.bool true) rfl (by go_simp) rfl
        refine Obs.cons (fun u w hS hd => ?_) ?_
        · have d11 : u 11 = .bool true := dep hd 6 rfl
          rw [d11]
          exact Gv.run (.bool true) rfl (by go_simp) rfl
        refine Obs.cons (fun u w hS hd => ?_) ?_
        · have d12 : u 12 = .bool true := dep hd 7 rfl
          rw [d12]
          exact Gv.run (.pointer (some ⟨T, 0, none⟩)) rfl (by go_simp) rfl
        refine Obs.cons (fun u w hS hd => ?_) ?_
        · have d13 : u 13 = .pointer (some ⟨T, 0, none⟩) := dep hd 8 rfl
          have d12 : u 12 = .bool true := dep hd 7 rfl
          rw [d13, d12]
          exact Gv.run (.pointer (some ⟨T, 0, none⟩)) rfl (by go_simp) rfl
        refine Obs.cons (fun u w hS hd => ?_) ?_
        · have d14 : u 14 = .pointer (some ⟨T, 0, none⟩) := dep hd 9 rfl
          have d12 : u 12 = .bool true := dep hd 7 rfl
          rw [d14, d12]
          exact Gv.run (.pointer (some ⟨T, 0, none⟩)) rfl (by go_simp) rfl
        refine Obs.cons (fun u w hS hd => ?_) ?_
        · have d15 : u 15 = .pointer (some ⟨T, 0, none⟩) := dep hd 10 rfl
          have d12 : u 12 = .bool true := dep hd 7 rfl
          rw [d15, d12]
          exact Gv.run (.map (some M)) rfl (by obtain ⟨k0, k1, k2, k3⟩ := HS.out w hS; go_simp) rfl
        refine Obs.cons (fun u w hS hd => ?_) ?_
        · have d12 : u 12 = .bool true := dep hd 7 rfl
          rw [d12]
          exact Gv.run (.agg #[.int .i64 i.1, .int .i64 i.2]) rfl (by obtain ⟨k0, k1, k2, k3⟩ := HS.out w hS; go_simp) rfl
        refine Obs.cons (fun u w hS hd => ?_) ?_
        · have d16 : u 16 = .map (some M) := dep hd 11 rfl
          have d17 : u 17 = .agg #[.int .i64 i.1, .int .i64 i.2] := dep hd 12 rfl
          have d12 : u 12 = .bool true := dep hd 7 rfl
          rw [d16, d17, d12]
          exact Gv.run (.pointer none) rfl (by obtain ⟨k0, k1, k2, k3⟩ := HS.out w hS; go_simp) rfl
        refine Obs.cons (fun u w hS hd => ?_) ?_
        · have d18 : u 18 = .pointer none := dep hd 13 rfl
          have d12 : u 12 = .bool true := dep hd 7 rfl
          rw [d18, d12]
          exact Gv.run (.bool false) rfl (by go_simp) rfl
        refine Obs.cons (fun u w hS hd => ?_) ?_
        · have d12 : u 12 = .bool true := dep hd 7 rfl
          have d19 : u 19 = .bool false := dep hd 14 rfl
          rw [d12, d19]
          exact Gv.run (.bool false) rfl (by go_simp) rfl
        exact Obs.nil
      intro u v3 hS hd
      have d20 : u 20 = .bool false := hd 15 (by decide)
      rw [d20]
      simp only [List.drop_succ_cons, List.drop_zero]
      have HB3 := Lib.hid (HB.out.trans (hS.mono HB.out.size))
      clear hS hd d20
      go_wp2_with fail
      go_ret
      exact ⟨by rw [HI.out]; rfl, HB3.out⟩
theorem has_nil (i : IDt) (w : World) : Calls Try.prog 57 #[.pointer none, idV i] w fun e w' => e = .returned (.bool false) ∧ Below w.heap.size w w' := by
  obtain ⟨v1, ev⟩ : ∃ v, v = w.alloc (.cells #[.int .i64 i.1, .int .i64 i.2] 27) := ⟨_, rfl⟩
  obtain ⟨g, eg⟩ : ∃ g, g = w.heap.size := ⟨_, rfl⟩
  have hb : Below w.heap.size w v1 := by rw [ev]; exact (Below.refl _ _).alloc (Nat.le_refl _) _
  have hs : v1.heap.size = g + 1 := by rw [ev, eg]; simp
  have hq : v1.cell? ⟨g, 0, none⟩ = some (.int .i64 i.1) ∧ v1.cell? ⟨g, 1, none⟩ = some (.int .i64 i.2) := by
    rw [ev, eg]
    simp
  have HB := Lib.hid hb
  have HV := Lib.hid (And.intro ev eg)
  clear hb hs hq ev eg
  go_enter Try.func57, Try.ntmps57
  go_upto_region 1 with fail
  rw [← HV.out.1, ← HV.out.2]
  clear HV
  refine wp_region_inv 16 [5, 6, 7, 8, 9, 10, 11, 12, 13, 14, 15, 16, 17, 18, 19, 20] [.val (.pointer none), .val (.bool false), .val (.bool false), .val undef, .val undef, .val undef, .val (.bool false), .val (.bool false), .val undef, .val undef, .val undef, .val undef, .val undef, .val undef, .val undef, .val (.bool false)] (fun wz => Below v1.heap.size v1 wz) (by kernel_rfl) (by kernel_rfl) (fun wz wz' hz hb => hz.trans (hb.mono hz.size)) ((Below.refl _ _).drew) (fun u => by simp only [puts, List.foldl_cons, List.foldl_nil]; go_simp; exact rfl) ?_ ?_
  · simp only [List.take_succ_cons, List.take_zero]
    refine Obs.cons (fun u w hS hd => ?_) ?_
    · exact Gv.run (.pointer none) rfl (by go_simp) rfl
    refine Obs.cons (fun u w hS hd => ?_) ?_
    · have d5 : u 5 = .pointer none := dep hd 0 rfl
      rw [d5]
      exact Gv.run (.bool false) rfl (by go_simp) rfl
    refine Obs.cons (fun u w hS hd => ?_) ?_
    · have d6 : u 6 = .bool false := dep hd 1 rfl
      rw [d6]
      exact Gv.run (.bool false) rfl (by go_simp) rfl
    refine Obs.cons (fun u w hS hd => ?_) ?_
    · have d7 : u 7 = .bool false := dep hd 2 rfl
      rw [d7]
      exact Gv.skip (by rfl) rfl
    refine Obs.cons (fun u w hS hd => ?_) ?_
    · have d7 : u 7 = .bool false := dep hd 2 rfl
      rw [d7]
      exact Gv.skip (by rfl) rfl
    refine Obs.cons (fun u w hS hd => ?_) ?_
    · have d8 : u 8 = undef := dep hd 3 rfl
      have d9 : u 9 = undef := dep hd 4 rfl
      have d7 : u 7 = .bool false := dep hd 2 rfl
      rw [d8, d9, d7]
      exact Gv.skip (by rfl) rfl
    refine Obs.cons (fun u w hS hd => ?_) ?_
    · have d7 : u 7 = .bool false := dep hd 2 rfl
      have d10 : u 10 = undef := dep hd 5 rfl
      rw [d7, d10]
      exact Gv.run (.bool false) rfl (by go_simp) rfl
    refine Obs.cons (fun u w hS hd => ?_) ?_
    · have d11 : u 11 = .bool false := dep hd 6 rfl
      rw [d11]
      exact Gv.run (.bool false) rfl (by go_simp) rfl
    refine Obs.cons (fun u w hS hd => ?_) ?_
    · have d12 : u 12 = .bool false := dep hd 7 rfl
      rw [d12]
      exact Gv.skip (by rfl) rfl
    refine Obs.cons (fun u w hS hd => ?_) ?_
    · have d13 : u 13 = undef := dep hd 8 rfl
      have d12 : u 12 = .bool false := dep hd 7 rfl
      rw [d13, d12]
      exact Gv.skip (by rfl) rfl
    refine Obs.cons (fun u w hS hd => ?_) ?_
    · have d14 : u 14 = undef := dep hd 9 rfl
      have d12 : u 12 = .bool false := dep hd 7 rfl
      rw [d14, d12]
      exact Gv.skip (by rfl) rfl
    refine Obs.cons (fun u w hS hd => ?_) ?_
    · have d15 : u 15 = undef := dep hd 10 rfl
      have d12 : u 12 = .bool false := dep hd 7 rfl
      rw [d15, d12]
      exact Gv.skip (by rfl) rfl
    refine Obs.cons (fun u w hS hd => ?_) ?_
    · have d12 : u 12 = .bool false := dep hd 7 rfl
      rw [d12]
      exact Gv.skip (by rfl) rfl
    refine Obs.cons (fun u w hS hd => ?_) ?_
    · have d16 : u 16 = undef := dep hd 11 rfl
      have d17 : u 17 = undef := dep hd 12 rfl
      have d12 : u 12 = .bool false := dep hd 7 rfl
      rw [d16, d17, d12]
      exact Gv.skip (by rfl) rfl
    refine Obs.cons (fun u w hS hd => ?_) ?_
    · have d18 : u 18 = undef := dep hd 13 rfl
      have d12 : u 12 = .bool false := dep hd 7 rfl
      rw [d18, d12]
      exact Gv.skip (by rfl) rfl
    refine Obs.cons (fun u w hS hd => ?_) ?_
    · have d12 : u 12 = .bool false := dep hd 7 rfl
      have d19 : u 19 = undef := dep hd 14 rfl
      rw [d12, d19]
      exact Gv.run (.bool false) rfl (by go_simp) rfl
    exact Obs.nil
  intro u v3 hS hd
  have d20 : u 20 = .bool false := hd 15 (by decide)
  rw [d20]
  simp only [List.drop_succ_cons, List.drop_zero]
  have HB3 := Lib.hid (HB.out.trans (hS.mono HB.out.size))
  clear hS hd d20
  go_wp2_with fail
  go_ret
  exact ⟨rfl, HB3.out⟩
end Go.Proofs.Ytpjeggbkhbghaaa
namespace Go.Proofs.Ytpjeggbkhbghaaa
open Go Go.RowKit
set_option maxRecDepth 20000
/-- The cell that leads to what stands behind the first so many of those that hang below one on a side. -/
def placeOf (ad : IDt → Nat) (bp : Nat) (s : Bool) (A : List Ins) : Addr := match A.getLast? with
  | none => ⟨bp, if s then 8 else 7, none⟩
  | some y => ⟨ad y.id, 6, none⟩
/-- An element at be is to be hung below the one at bp, among these. -/
structure Hangs (w : World) (ad : IDt → Nat) (be bp : Nat) (x : Ins) (ls : List Ins) : Prop where
  e : ∃ r g nx lf rg, w.heap[be]? = some (elC x.id r g (pB bp) x.right nx lf rg)
  p : ∃ i r g pa rt nx lf rg, w.heap[bp]? = some (elC i r g pa rt nx lf rg) ∧ (if x.right then rg else lf) = ptO ad ls.head?
  k : ∀ y ∈ ls, ∃ r g pa rt lf rg, w.heap[ad y.id]? = some (elC y.id r g pa rt (ptO ad (nextIn ls y.id)) lf rg)
  d : Sorted ls
  n1 : bp ≠ be
  n2 : ∀ y ∈ ls, ad y.id ≠ be
theorem Hangs.keep {w w' : World} {ad : IDt → Nat} {be bp : Nat} {x : Ins} {ls : List Ins} (h : Hangs w ad be bp x ls) (hb : Below w.heap.size w w') : Hangs w' ad be bp x ls := by
  obtain ⟨⟨r, g, nx, lf, rg, e⟩, ⟨i, r2, g2, pa2, rt2, nx2, lf2, rg2, p, hp⟩, k, d, n1, n2⟩ := h
  refine ⟨⟨r, g, nx, lf, rg, (hb.block _ (lt_of_heap e)).trans e⟩, ⟨i, r2, g2, pa2, rt2, nx2, lf2, rg2, (hb.block _ (lt_of_heap p)).trans p, hp⟩, fun y hy => ?_, d, n1, n2⟩
  obtain ⟨r, g, pa, rt, lf, rg, hk⟩ := k y hy
  exact ⟨r, g, pa, rt, lf, rg, (hb.block _ (lt_of_heap hk)).trans hk⟩
theorem Hangs.place {w : World} {ad : IDt → Nat} {be bp : Nat} {x : Ins} {ls A B : List Ins} (h : Hangs w ad be bp x ls) (hl : ls = A ++ B) :
    w.cell? (placeOf ad bp x.right A) = some (ptO ad B.head?) ∧ w.frozen? (placeOf ad bp x.right A) = false ∧ (placeOf ad bp x.right A).block < w.heap.size ∧ (placeOf ad bp x.right A).spot = none ∧ (placeOf ad bp x.right A).block ≠ be := by
  obtain ⟨_, ⟨i, r2, g2, pa2, rt2, nx2, lf2, rg2, p, hp⟩, k, d, n1, n2⟩ := h
  cases hA : A.getLast? with
  | none =>
    have eA : A = [] := by simpa using hA
    subst eA
    rw [hl, List.nil_append] at hp
    obtain ⟨_, _, _, _, _, _, _, c7, c8⟩ := el_cells p
    rw [← hp]
    unfold placeOf
    rw [hA]
    refine ⟨?_, cells_free p _, lt_of_heap p, rfl, n1⟩
    cases x.right
    · exact c7
    · exact c8
  | some y =>
    obtain ⟨A', rfl⟩ : ∃ A', A = A' ++ [y] := List.getLast?_eq_some_iff.1 hA
    have hy : y ∈ ls := by rw [hl]; simp
    have hl2 : ls = A' ++ y :: B := by rw [hl]; simp
    obtain ⟨r, g, pa, rt, lf, rg, hk⟩ := k y hy
    have hd := sorted_distinct d
    rw [hl2] at hd
    have hn : nextIn ls y.id = B.head? := by rw [hl2]; exact nextIn_at (distinct_mid hd).1
    rw [hn] at hk
    obtain ⟨_, _, _, _, _, _, c6, _⟩ := el_cells hk
    unfold placeOf
    rw [hA]
    exact ⟨c6, cells_free hk _, lt_of_heap hk, rfl, n2 y hy⟩
theorem placeOf_snoc (ad : IDt → Nat) (bp : Nat) (s : Bool) (A : List Ins) (z : Ins) : placeOf ad bp s (A ++ [z]) = ⟨ad z.id, 6, none⟩ := by
  unfold placeOf
  rw [List.getLast?_concat]
set_option maxHeartbeats 3200000 in
theorem hang_any {w : World} {ad : IDt → Nat} {be bp : Nat} {x : Ins} {ls : List Ins} (h : Hangs w ad be bp x ls) :
    Calls Try.prog 58 #[pB be] w fun e w' => (∃ v, e = .returned v) ∧ ∃ A B w1, ls = A ++ B ∧ (∀ y ∈ A, idLt y.id x.id = true) ∧ (∀ y ∈ B, idLt y.id x.id = false) ∧ Below w.heap.size w w1 ∧
      w' = (w1.setCell ⟨be, 6, none⟩ (ptO ad B.head?)).setCell (placeOf ad bp x.right A) (pB be) := by
  obtain ⟨re, ge, nxe, lfe, rge, he⟩ := h.e
  obtain ⟨e0, e1, _, _, e4, e5, e6, _⟩ := el_cells he
  have f6 := cells_free he 6
  have hlt := lt_of_heap he
  have HH := Lib.hid h
  have HE := Lib.hid (And.intro e0 (And.intro e1 (And.intro f6 hlt)))
  have HE6 := Lib.hid e6
  clear h he e0 e1 f6 hlt e6
  obtain ⟨rt, ert⟩ : ∃ r, r = x.right := ⟨_, rfl⟩
  rw [← ert] at e5
  have HR := Lib.hid ert
  clear ert
  go_enter Try.func58, Try.ntmps58
  have HP := Lib.hid (show placeOf ad bp x.right [] = ⟨bp, if rt then 8 else 7, none⟩ by rw [HR.out]; rfl)
  cases rt
  all_goals
    go_wp2_with fail
    clear e4 e5
    go_loopg [2] (ls.length) (fun k p wr => ∃ A B, ls = A ++ B ∧ B.length = k ∧ (∀ y ∈ A, idLt y.id x.id = true) ∧ p = .pointer (some (placeOf ad bp x.right A)) ∧ Below w.heap.size w wr)
    case atStart => exact ⟨[], ls, rfl, rfl, fun y hy => (nomatch hy), by rw [HP.out]; rfl, Below.refl _ _⟩
    case round =>
      obtain ⟨A, B, hAB, hk, hA, rfl, hbr⟩ := hrel
      obtain ⟨c1, c2, c3, c4, c5⟩ := (HH.out.keep hbr).place hAB
      obtain ⟨pl, epl⟩ : ∃ q, q = placeOf ad bp x.right A := ⟨_, rfl⟩
      rw [← epl] at c1 c2 c3 c4 c5 ⊢
      obtain ⟨pb, po, sp⟩ := pl
      replace c4 : sp = none := c4
      subst c4
      replace c3 : pb < wr.heap.size := c3
      replace c5 : pb ≠ be := c5
      have HN := Lib.hid c5
      clear c5
      have hle : be < wr.heap.size := Nat.lt_of_lt_of_le HE.out.2.2.2 hbr.size
      have x0 := (hbr.cell (p := ⟨be, 0, none⟩) HE.out.2.2.2).trans HE.out.1
      have x1 := (hbr.cell (p := ⟨be, 1, none⟩) HE.out.2.2.2).trans HE.out.2.1
      obtain ⟨x1', ex1⟩ : ∃ q, q = x.id.1 := ⟨_, rfl⟩
      obtain ⟨x2', ex2⟩ : ∃ q, q = x.id.2 := ⟨_, rfl⟩
      rw [← ex1] at x0
      rw [← ex2] at x1
      have HX := Lib.hid (And.intro ex1 ex2)
      have HA := Lib.hid (And.intro hAB (And.intro hA (And.intro epl (And.intro hk hbr))))
      clear hAB hA epl hk ex1 ex2
      cases B with
      | nil =>
        replace c1 : wr.cell? ⟨pb, po, none⟩ = some (.pointer none) := c1
        have HS := Lib.hid (fun wz (hz : Below wr.heap.size wr wz) => show wz.cell? ⟨pb, po, none⟩ = some (.pointer none) ∧ wz.cell? ⟨be, 0, none⟩ = some (.int .i64 x1') ∧ wz.cell? ⟨be, 1, none⟩ = some (.int .i64 x2') ∧ True ∧ True from
          ⟨(hz.cell (p := ⟨pb, po, none⟩) c3).trans c1, (hz.cell (p := ⟨be, 0, none⟩) hle).trans x0, (hz.cell (p := ⟨be, 1, none⟩) hle).trans x1, trivial, trivial⟩)
        have HF := Lib.hid (fun wz (hz : Below wr.heap.size wr wz) => show wz.frozen? ⟨pb, po, none⟩ = false from (hz.frozen (p := ⟨pb, po, none⟩) c3).trans c2)
        clear c1 x0 x1 hbr c2
        go_upto_region 3 with fail
        refine wp_region_inv 18 [19, 20, 21, 22, 23, 24, 25, 26, 27, 28, 29, 30, 31, 32, 33, 34, 35, 36] [.val (.pointer (some ⟨pb, po, none⟩)), .val (.pointer (some ⟨pb, po, none⟩)), .val (.pointer none), .val (.bool false), .val (.bool false), .val undef, .val undef, .val undef, .val undef, .val undef, .val undef, .val undef, .val undef, .val undef, .val undef, .val undef, .val undef, .val undef] (fun wz => Below wr.heap.size wr wz) (by kernel_rfl) (by kernel_rfl) (fun wz wz' hz hb => hz.trans (hb.mono hz.size)) ((Below.refl _ _).drew) (fun u => by simp only [puts, List.foldl_cons, List.foldl_nil]; go_simp; exact rfl) ?_ ?_
        · simp only [List.take_succ_cons, List.take_zero]
          refine Obs.cons (fun u w hS hd => ?_) ?_
          · exact Gv.run (.pointer (some ⟨pb, po, none⟩)) rfl (by go_simp) rfl
          refine Obs.cons (fun u w hS hd => ?_) ?_
          · have d19 : u 19 = .pointer (some ⟨pb, po, none⟩) := dep hd 0 rfl
            rw [d19]
            exact Gv.run (.pointer (some ⟨pb, po, none⟩)) rfl (by go_simp) rfl
          refine Obs.cons (fun u w hS hd => ?_) ?_
          · have d20 : u 20 = .pointer (some ⟨pb, po, none⟩) := dep hd 1 rfl
            rw [d20]
            exact Gv.run (.pointer none) rfl (by obtain ⟨k0, k1, k2, k3, k4⟩ := HS.out w hS; go_simp) rfl
          refine Obs.cons (fun u w hS hd => ?_) ?_
          · have d21 : u 21 = .pointer none := dep hd 2 rfl
            rw [d21]
            exact Gv.run (.bool false) rfl (by go_simp) rfl
          refine Obs.cons (fun u w hS hd => ?_) ?_
          · have d22 : u 22 = .bool false := dep hd 3 rfl
            rw [d22]
            exact Gv.run (.bool false) rfl (by go_simp) rfl
          refine Obs.cons (fun u w hS hd => ?_) ?_
          · have d23 : u 23 = .bool false := dep hd 4 rfl
            rw [d23]
            exact Gv.skip (by rfl) rfl
          refine Obs.cons (fun u w hS hd => ?_) ?_
          · have d24 : u 24 = undef := dep hd 5 rfl
            have d23 : u 23 = .bool false := dep hd 4 rfl
            rw [d24, d23]
            exact Gv.skip (by rfl) rfl
          refine Obs.cons (fun u w hS hd => ?_) ?_
          · have d25 : u 25 = undef := dep hd 6 rfl
            have d23 : u 23 = .bool false := dep hd 4 rfl
            rw [d25, d23]
            exact Gv.skip (by rfl) rfl
          refine Obs.cons (fun u w hS hd => ?_) ?_
          · have d26 : u 26 = undef := dep hd 7 rfl
            have d23 : u 23 = .bool false := dep hd 4 rfl
            rw [d26, d23]
            exact Gv.skip (by rfl) rfl
          refine Obs.cons (fun u w hS hd => ?_) ?_
          · have d27 : u 27 = undef := dep hd 8 rfl
            have d23 : u 23 = .bool false := dep hd 4 rfl
            rw [d27, d23]
            exact Gv.skip (by rfl) rfl
          refine Obs.cons (fun u w hS hd => ?_) ?_
          · have d28 : u 28 = undef := dep hd 9 rfl
            have d23 : u 23 = .bool false := dep hd 4 rfl
            rw [d28, d23]
            exact Gv.skip (by rfl) rfl
          refine Obs.cons (fun u w hS hd => ?_) ?_
          · have d29 : u 29 = undef := dep hd 10 rfl
            have d23 : u 23 = .bool false := dep hd 4 rfl
            rw [d29, d23]
            exact Gv.skip (by rfl) rfl
          refine Obs.cons (fun u w hS hd => ?_) ?_
          · have d23 : u 23 = .bool false := dep hd 4 rfl
            rw [d23]
            exact Gv.skip (by rfl) rfl
          refine Obs.cons (fun u w hS hd => ?_) ?_
          · have d31 : u 31 = undef := dep hd 12 rfl
            have d23 : u 23 = .bool false := dep hd 4 rfl
            rw [d31, d23]
            exact Gv.skip (by rfl) rfl
          refine Obs.cons (fun u w hS hd => ?_) ?_
          · have d32 : u 32 = undef := dep hd 13 rfl
            have d23 : u 23 = .bool false := dep hd 4 rfl
            rw [d32, d23]
            exact Gv.skip (by rfl) rfl
          refine Obs.cons (fun u w hS hd => ?_) ?_
          · have d33 : u 33 = undef := dep hd 14 rfl
            have d23 : u 23 = .bool false := dep hd 4 rfl
            rw [d33, d23]
            exact Gv.skip (by rfl) rfl
          refine Obs.cons (fun u w hS hd => ?_) ?_
          · have d34 : u 34 = undef := dep hd 15 rfl
            have d23 : u 23 = .bool false := dep hd 4 rfl
            rw [d34, d23]
            exact Gv.skip (by rfl) rfl
          refine Obs.cons (fun u w hS hd => ?_) ?_
          · have d30 : u 30 = undef := dep hd 11 rfl
            have d35 : u 35 = undef := dep hd 16 rfl
            have d23 : u 23 = .bool false := dep hd 4 rfl
            rw [d30, d35, d23]
            exact Gv.skip (by rfl) rfl
          exact Obs.nil
        intro u v3 hS hd
        have d23 : u 23 = .bool false := hd 4 (by decide)
        have d36 : u 36 = undef := hd 17 (by decide)
        rw [d23, d36]
        simp only [List.drop_succ_cons, List.drop_zero]
        obtain ⟨k0, _⟩ := HS.out v3 hS
        have kf := HF.out v3 hS
        have HB3 := Lib.hid (HA.out.2.2.2.2.trans (hS.mono HA.out.2.2.2.2.size))
        have ke := (HB3.out.frozen (p := ⟨be, 6, none⟩) HE.out.2.2.2).trans HE.out.2.2.1
        have k6 := (HB3.out.cell (p := ⟨be, 6, none⟩) HE.out.2.2.2).trans HE6.out
        have k7 : ∀ v, (v3.setCell ⟨be, 6, none⟩ v).cell? ⟨pb, po, none⟩ = some (.pointer none) := fun v => (World.cell?_of_block (set_other v3 v HN.out)).trans k0
        have kf7 : ∀ v, (v3.setCell ⟨be, 6, none⟩ v).frozen? ⟨pb, po, none⟩ = false := fun v => (World.frozen?_of_block (set_other v3 v HN.out)).trans kf
        have HZ := Lib.hid HS
        clear hS hd d23 d36 HS HF
        go_wp2_with fail
        go_end0
        refine ⟨⟨_, rfl⟩, A, [], v3, HA.out.1, HA.out.2.1, (fun y hy => nomatch hy), HB3.out, ?_⟩
        rw [← HA.out.2.2.1]
        rfl
      | cons z B =>
        obtain ⟨rz, gz, paz, rtz, lfz, rgz, hz⟩ := (HH.out.keep HA.out.2.2.2.2).k z (by rw [HA.out.1]; simp)
        obtain ⟨z0, z1, _⟩ := el_cells hz
        have hzl := lt_of_heap hz
        obtain ⟨bz, ebz⟩ : ∃ q, q = ad z.id := ⟨_, rfl⟩
        obtain ⟨z1', ez1⟩ : ∃ q, q = z.id.1 := ⟨_, rfl⟩
        obtain ⟨z2', ez2⟩ : ∃ q, q = z.id.2 := ⟨_, rfl⟩
        replace c1 : wr.cell? ⟨pb, po, none⟩ = some (.pointer (some ⟨ad z.id, 0, none⟩)) := c1
        rw [← ebz] at z0 z1 hzl c1
        rw [← ez1] at z0
        rw [← ez2] at z1
        obtain ⟨lt, elt⟩ : ∃ q, q = idLt z.id x.id := ⟨_, rfl⟩
        have KL := Lib.hid (fun w => show Calls Try.prog 75 #[.agg #[.int .i64 z1', .int .i64 z2'], .agg #[.int .i64 x1', .int .i64 x2']] w fun e w' => e = .returned (.bool lt) ∧ Below w.heap.size w w' by
          have := cless_any z.id x.id w
          rw [← elt] at this
          rw [ez1, ez2, HX.out.1, HX.out.2]
          exact this)
        have HS := Lib.hid (fun wz (hz : Below wr.heap.size wr wz) => show wz.cell? ⟨pb, po, none⟩ = some (.pointer (some ⟨bz, 0, none⟩)) ∧ wz.cell? ⟨be, 0, none⟩ = some (.int .i64 x1') ∧ wz.cell? ⟨be, 1, none⟩ = some (.int .i64 x2') ∧ wz.cell? ⟨bz, 0, none⟩ = some (.int .i64 z1') ∧ wz.cell? ⟨bz, 1, none⟩ = some (.int .i64 z2') from
          ⟨(hz.cell (p := ⟨pb, po, none⟩) c3).trans c1, (hz.cell (p := ⟨be, 0, none⟩) hle).trans x0, (hz.cell (p := ⟨be, 1, none⟩) hle).trans x1, (hz.cell (p := ⟨bz, 0, none⟩) hzl).trans z0, (hz.cell (p := ⟨bz, 1, none⟩) hzl).trans z1⟩)
        have HF := Lib.hid (fun wz (hz : Below wr.heap.size wr wz) => show wz.frozen? ⟨pb, po, none⟩ = false from (hz.frozen (p := ⟨pb, po, none⟩) c3).trans c2)
        have HZ := Lib.hid (And.intro ebz elt)
        clear c1 x0 x1 hbr c2 z0 z1 hz hzl ebz ez1 ez2 elt
        go_upto_region 3 with fail
        refine wp_region_inv 18 [19, 20, 21, 22, 23, 24, 25, 26, 27, 28, 29, 30, 31, 32, 33, 34, 35, 36] [.val (.pointer (some ⟨pb, po, none⟩)), .val (.pointer (some ⟨pb, po, none⟩)), .val (.pointer (some ⟨bz, 0, none⟩)), .val (.bool true), .val (.bool true), .val (.pointer (some ⟨pb, po, none⟩)), .val (.pointer (some ⟨pb, po, none⟩)), .val (.pointer (some ⟨bz, 0, none⟩)), .val (.pointer (some ⟨bz, 0, none⟩)), .val (.pointer (some ⟨bz, 0, none⟩)), .val (.pointer (some ⟨bz, 0, none⟩)), .val (.agg #[.int .i64 z1', .int .i64 z2']), .val (.pointer (some ⟨be, 0, none⟩)), .val (.pointer (some ⟨be, 0, none⟩)), .val (.pointer (some ⟨be, 0, none⟩)), .val (.pointer (some ⟨be, 0, none⟩)), .val (.agg #[.int .i64 x1', .int .i64 x2']), .val (.bool lt)] (fun wz => Below wr.heap.size wr wz) (by kernel_rfl) (by kernel_rfl) (fun wz wz' hz hb => hz.trans (hb.mono hz.size)) ((Below.refl _ _).drew) (fun u => by simp only [puts, List.foldl_cons, List.foldl_nil]; go_simp; exact rfl) ?_ ?_
        · simp only [List.take_succ_cons, List.take_zero]
          refine Obs.cons (fun u w hS hd => ?_) ?_
          · exact Gv.run (.pointer (some ⟨pb, po, none⟩)) rfl (by go_simp) rfl
          refine Obs.cons (fun u w hS hd => ?_) ?_
          · have d19 : u 19 = .pointer (some ⟨pb, po, none⟩) := dep hd 0 rfl
            rw [d19]
            exact Gv.run (.pointer (some ⟨pb, po, none⟩)) rfl (by go_simp) rfl
          refine Obs.cons (fun u w hS hd => ?_) ?_
          · have d20 : u 20 = .pointer (some ⟨pb, po, none⟩) := dep hd 1 rfl
            rw [d20]
            exact Gv.run (.pointer (some ⟨bz, 0, none⟩)) rfl (by obtain ⟨k0, k1, k2, k3, k4⟩ := HS.out w hS; go_simp) rfl
          refine Obs.cons (fun u w hS hd => ?_) ?_
          · have d21 : u 21 = .pointer (some ⟨bz, 0, none⟩) := dep hd 2 rfl
            rw [d21]
            exact Gv.run (.bool true) rfl (by go_simp) rfl
          refine Obs.cons (fun u w hS hd => ?_) ?_
          · have d22 : u 22 = .bool true := dep hd 3 rfl
            rw [d22]
            exact Gv.run (.bool true) rfl (by go_simp) rfl
          refine Obs.cons (fun u w hS hd => ?_) ?_
          · have d23 : u 23 = .bool true := dep hd 4 rfl
            rw [d23]
            exact Gv.run (.pointer (some ⟨pb, po, none⟩)) rfl (by go_simp) rfl
          refine Obs.cons (fun u w hS hd => ?_) ?_
          · have d24 : u 24 = .pointer (some ⟨pb, po, none⟩) := dep hd 5 rfl
            have d23 : u 23 = .bool true := dep hd 4 rfl
            rw [d24, d23]
            exact Gv.run (.pointer (some ⟨pb, po, none⟩)) rfl (by go_simp) rfl
          refine Obs.cons (fun u w hS hd => ?_) ?_
          · have d25 : u 25 = .pointer (some ⟨pb, po, none⟩) := dep hd 6 rfl
            have d23 : u 23 = .bool true := dep hd 4 rfl
            rw [d25, d23]
            exact Gv.run (.pointer (some ⟨bz, 0, none⟩)) rfl (by obtain ⟨k0, k1, k2, k3, k4⟩ := HS.out w hS; go_simp) rfl
          refine Obs.cons (fun u w hS hd => ?_) ?_
          · have d26 : u 26 = .pointer (some ⟨bz, 0, none⟩) := dep hd 7 rfl
            have d23 : u 23 = .bool true := dep hd 4 rfl
            rw [d26, d23]
            exact Gv.run (.pointer (some ⟨bz, 0, none⟩)) rfl (by go_simp) rfl
          refine Obs.cons (fun u w hS hd => ?_) ?_
          · have d27 : u 27 = .pointer (some ⟨bz, 0, none⟩) := dep hd 8 rfl
            have d23 : u 23 = .bool true := dep hd 4 rfl
            rw [d27, d23]
            exact Gv.run (.pointer (some ⟨bz, 0, none⟩)) rfl (by go_simp) rfl
          refine Obs.cons (fun u w hS hd => ?_) ?_
          · have d28 : u 28 = .pointer (some ⟨bz, 0, none⟩) := dep hd 9 rfl
            have d23 : u 23 = .bool true := dep hd 4 rfl
            rw [d28, d23]
            exact Gv.run (.pointer (some ⟨bz, 0, none⟩)) rfl (by go_simp) rfl
          refine Obs.cons (fun u w hS hd => ?_) ?_
          · have d29 : u 29 = .pointer (some ⟨bz, 0, none⟩) := dep hd 10 rfl
            have d23 : u 23 = .bool true := dep hd 4 rfl
            rw [d29, d23]
            exact Gv.run (.agg #[.int .i64 z1', .int .i64 z2']) rfl (by obtain ⟨k0, k1, k2, k3, k4⟩ := HS.out w hS; go_simp) rfl
          refine Obs.cons (fun u w hS hd => ?_) ?_
          · have d23 : u 23 = .bool true := dep hd 4 rfl
            rw [d23]
            exact Gv.run (.pointer (some ⟨be, 0, none⟩)) rfl (by go_simp) rfl
          refine Obs.cons (fun u w hS hd => ?_) ?_
          · have d31 : u 31 = .pointer (some ⟨be, 0, none⟩) := dep hd 12 rfl
            have d23 : u 23 = .bool true := dep hd 4 rfl
            rw [d31, d23]
            exact Gv.run (.pointer (some ⟨be, 0, none⟩)) rfl (by go_simp) rfl
          refine Obs.cons (fun u w hS hd => ?_) ?_
          · have d32 : u 32 = .pointer (some ⟨be, 0, none⟩) := dep hd 13 rfl
            have d23 : u 23 = .bool true := dep hd 4 rfl
            rw [d32, d23]
            exact Gv.run (.pointer (some ⟨be, 0, none⟩)) rfl (by go_simp) rfl
          refine Obs.cons (fun u w hS hd => ?_) ?_
          · have d33 : u 33 = .pointer (some ⟨be, 0, none⟩) := dep hd 14 rfl
            have d23 : u 23 = .bool true := dep hd 4 rfl
            rw [d33, d23]
            exact Gv.run (.pointer (some ⟨be, 0, none⟩)) rfl (by go_simp) rfl
          refine Obs.cons (fun u w hS hd => ?_) ?_
          · have d34 : u 34 = .pointer (some ⟨be, 0, none⟩) := dep hd 15 rfl
            have d23 : u 23 = .bool true := dep hd 4 rfl
            rw [d34, d23]
            exact Gv.run (.agg #[.int .i64 x1', .int .i64 x2']) rfl (by obtain ⟨k0, k1, k2, k3, k4⟩ := HS.out w hS; go_simp) rfl
          refine Obs.cons (fun u w hS hd => ?_) ?_
          · have d30 : u 30 = .agg #[.int .i64 z1', .int .i64 z2'] := dep hd 11 rfl
            have d35 : u 35 = .agg #[.int .i64 x1', .int .i64 x2'] := dep hd 16 rfl
            have d23 : u 23 = .bool true := dep hd 4 rfl
            rw [d30, d35, d23]
            refine Gv.call 75 #[.agg #[.int .i64 z1', .int .i64 z2'], .agg #[.int .i64 x1', .int .i64 x2']] rfl (by go_simp) (((KL.out w)).mono ?_)
            rintro e w' ⟨rfl, hb⟩
            exact ⟨_, rfl, rfl, hb⟩
          exact Obs.nil
        intro u v3 hS hd
        have d23 : u 23 = .bool true := hd 4 (by decide)
        have d36 : u 36 = .bool lt := hd 17 (by decide)
        rw [d23, d36]
        simp only [List.drop_succ_cons, List.drop_zero]
        obtain ⟨k0, _⟩ := HS.out v3 hS
        have kf := HF.out v3 hS
        have HB3 := Lib.hid (HA.out.2.2.2.2.trans (hS.mono HA.out.2.2.2.2.size))
        have ke := (HB3.out.frozen (p := ⟨be, 6, none⟩) HE.out.2.2.2).trans HE.out.2.2.1
        have k6 := (HB3.out.cell (p := ⟨be, 6, none⟩) HE.out.2.2.2).trans HE6.out
        have k7 : ∀ v, (v3.setCell ⟨be, 6, none⟩ v).cell? ⟨pb, po, none⟩ = some (.pointer (some ⟨bz, 0, none⟩)) := fun v => (World.cell?_of_block (set_other v3 v HN.out)).trans k0
        have kf7 : ∀ v, (v3.setCell ⟨be, 6, none⟩ v).frozen? ⟨pb, po, none⟩ = false := fun v => (World.frozen?_of_block (set_other v3 v HN.out)).trans kf
        clear hS hd d23 d36 HS HF
        cases lt with
        | true =>
          clear kf ke k6 k7 kf7
          go_wp2_with fail
          go_roundg (B.length)
          case measure => have := HA.out.2.2.2.1; simp at this; omega
          case rel =>
            refine ⟨A ++ [z], B, by rw [HA.out.1]; simp, rfl, fun y hy => ?_, ?_, HB3.out⟩
            · rcases List.mem_append.1 hy with h1 | h1
              · exact HA.out.2.1 y h1
              · rw [List.mem_singleton.1 h1]
                exact HZ.out.2.symm
            · rw [placeOf_snoc, ← HZ.out.1]
        | false =>
          go_wp2_with fail
          go_end0
          refine ⟨⟨_, rfl⟩, A, z :: B, v3, HA.out.1, HA.out.2.1, ?_, HB3.out, ?_⟩
          · have hd := HH.out.d
            rw [HA.out.1] at hd
            exact sorted_cut hd HZ.out.2.symm
          · rw [← HA.out.2.2.1, HZ.out.1]
            rfl
end Go.Proofs.Ytpjeggbkhbghaaa
namespace Go.Proofs.Ytpjeggbkhbghaaa
open Go Go.RowKit
set_option maxRecDepth 20000
theorem live_drop {G : List IDt} {x : Ins} (hg : x.id ∉ G) : ∀ {L : List Ins}, Distinct L → x ∈ L → (liveL (G ++ [x.id]) L).length + 1 = (liveL G L).length
  | [], _, h => nomatch h
  | y :: L, hd, h => by
    obtain ⟨h1, h2⟩ := List.pairwise_cons.1 hd
    rcases List.mem_cons.1 h with e | hx
    · subst e
      have e1 : liveL (G ++ [x.id]) L = liveL G L := List.filter_congr fun z hz => by
        have := h1 z hz
        rw [decide_eq_decide]
        simp only [List.mem_append, List.mem_singleton, not_or]
        exact ⟨fun q => q.1, fun q => ⟨q, fun e => this e.symm⟩⟩
      rw [live_on hg, live_off (by simp), e1, List.length_cons]
    · have hy : y.id ≠ x.id := h1 x hx
      have ih := live_drop hg h2 hx
      by_cases hyg : y.id ∈ G
      · rw [live_off hyg, live_off (List.mem_append.2 (.inl hyg))]
        exact ih
      · rw [live_on hyg, live_on (by simp [hyg, hy]), List.length_cons, List.length_cons, ih]
theorem goneB_snoc_same (G : List IDt) (i : IDt) : goneB (G ++ [i]) i = true := by rw [goneB_eq]; simp
theorem goneB_snoc_other (G : List IDt) {i j : IDt} (h : j ≠ i) : goneB (G ++ [i]) j = goneB G j := by
  rw [goneB_eq, goneB_eq, decide_eq_decide]
  simp [h]
theorem TreeH.dropped {w : World} {T M : Nat} {ad : IDt → Nat} {L : List Ins} {G : List IDt} (h : TreeH w T M ad L G) {x : Ins} (hx : x ∈ L) (hg : x.id ∉ G) :
    TreeH ((w.setCell ⟨ad x.id, 3, none⟩ (.bool true)).setCell ⟨T, 1, none⟩ (.int .i64 (((liveL G L).length : Int) - 1))) T M ad L (G ++ [x.id]) := by
  obtain ⟨a1, a2, a3, a4⟩ := h.apart
  obtain ⟨ps, clk, hm, hp, hl⟩ := h.map
  have hn := live_drop hg h.ok.distinct hx
  have hh : ∀ k, k ≠ T → k ≠ ad x.id → ((w.setCell ⟨ad x.id, 3, none⟩ (.bool true)).setCell ⟨T, 1, none⟩ (.int .i64 (((liveL G L).length : Int) - 1))).heap[k]? = w.heap[k]? := fun k h1 h2 => (set_other _ _ h1).trans (set_other _ _ h2)
  refine ⟨h.ok, ?_, ⟨ps, clk, hm.keep (hh M (fun e => a1 e.symm) (fun e => (a4 x hx).2 e.symm)), hp, hl⟩, (hh _ (fun e => a2 e.symm) (fun e => h.inj0 hx e.symm)).trans h.root, fun y hy => ?_, fun i hi => ?_, ?_⟩
  · have h1 := (set_other (k := 3) w (.bool true) (show T ≠ ad x.id from fun e => (a4 x hx).1 e.symm)).trans h.tree
    have h2 := set_block h1 1 (.int .i64 (((liveL G L).length : Int) - 1))
    rw [h2]
    have e1 : ((liveL G L).length : Int) - 1 = ((liveL (G ++ [x.id]) L).length : Int) := by omega
    rw [e1]
    rfl
  · by_cases e : y = x
    · subst e
      have h1 := set_block (h.el y hx) 3 (.bool true)
      rw [set_other _ _ (a4 y hx).1, h1, goneB_snoc_same]
      rfl
    · have hid : y.id ≠ x.id := fun e2 => e (h.ok.distinct.eq hy hx e2)
      rw [hh _ (a4 y hy).1 (fun e2 => e (h.inj hy hx e2)), goneB_snoc_other G hid]
      exact h.el y hy
  · rcases List.mem_append.1 hi with h1 | h1
    · exact h.gone i h1
    · rw [List.mem_singleton.1 h1]
      exact ⟨x, hx, rfl⟩
  · exact List.nodup_append.2 ⟨h.once, by simp, fun a ha b hb e => by rw [List.mem_singleton] at hb; exact hg (by rw [← hb, ← e]; exact ha)⟩
theorem drop_nil (i : IDt) (w : World) : Calls Try.prog 46 #[.pointer none, idV i] w fun e w' => e = .returned (.int .i64 13) ∧ Below w.heap.size w w' := by
  obtain ⟨v1, ev⟩ : ∃ v, v = w.alloc (.cells #[.int .i64 i.1, .int .i64 i.2] 27) := ⟨_, rfl⟩
  obtain ⟨g, eg⟩ : ∃ g, g = w.heap.size := ⟨_, rfl⟩
  have hb : Below w.heap.size w v1 := by rw [ev]; exact (Below.refl _ _).alloc (Nat.le_refl _) _
  have hq : v1.cell? ⟨g, 0, none⟩ = some (.int .i64 i.1) ∧ v1.cell? ⟨g, 1, none⟩ = some (.int .i64 i.2) := by
    rw [ev, eg]
    simp
  obtain ⟨q0, q1⟩ := hq
  have HB := Lib.hid hb
  have HV := Lib.hid (And.intro ev eg)
  clear hb ev eg
  go_enter Try.func46, Try.ntmps46
  go_upto_region 1 with fail
  rw [← HV.out.1, ← HV.out.2]
  clear HV
  go_wp2_with (go_at_call 57; refine (has_nil i v1).mono ?_; rintro e w' ⟨rfl, hb2⟩; have HB2 := Lib.hid (HB.out.trans (hb2.mono HB.out.size)); clear hb2 HB)
  go_ret
  exact ⟨rfl, HB2.out⟩
set_option maxHeartbeats 3200000 in
theorem drop_any {w : World} {T M : Nat} {ad : IDt → Nat} {L : List Ins} {G : List IDt} (h : TreeH w T M ad L G) (hl : L.length ≤ 4096) (i : IDt) :
    Calls Try.prog 46 #[pB T, idV i] w fun e w' => e = .returned (.int .i64 (dropR L G i).2) ∧ TreeH w' T M ad L (dropR L G i).1 ∧ OutF (inT T M ad L) w w' := by
  obtain ⟨v1, ev⟩ : ∃ v, v = w.alloc (.cells #[.int .i64 i.1, .int .i64 i.2] 27) := ⟨_, rfl⟩
  obtain ⟨g, eg⟩ : ∃ g, g = w.heap.size := ⟨_, rfl⟩
  have hb : Below w.heap.size w v1 := by rw [ev]; exact (Below.refl _ _).alloc (Nat.le_refl _) _
  have hs : v1.heap.size = g + 1 := by rw [ev, eg]; simp
  have hq : v1.cell? ⟨g, 0, none⟩ = some (.int .i64 i.1) ∧ v1.cell? ⟨g, 1, none⟩ = some (.int .i64 i.2) := by
    rw [ev, eg]
    simp
  have HT := Lib.hid h
  have H1 := Lib.hid (h.below hb)
  have HB := Lib.hid hb
  have HV := Lib.hid (And.intro ev (And.intro eg hs))
  have HQ := Lib.hid hq
  have HL := Lib.hid hl
  obtain ⟨q0, q1⟩ := hq
  clear hb hs ev eg h hl
  go_enter Try.func46, Try.ntmps46
  go_upto_region 1 with fail
  rw [← HV.out.1, ← HV.out.2.1]
  by_cases hh : hasB L i = true
  case neg =>
    have hf : hasB L i = false := by cases h : hasB L i <;> simp_all
    have HD := Lib.hid (show dropR L G i = (G, 13) by unfold dropR; rw [if_pos hf])
    have HF := Lib.hid hf
    clear hh hf HV
    go_wp2_with (go_at_call 57; refine (has_any H1.out i).mono ?_; rintro e w' ⟨rfl, hb2⟩; rw [HF.out]; have HB2 := Lib.hid (HB.out.trans (hb2.mono HB.out.size)); clear hb2)
    go_ret
    rw [HD.out]
    exact ⟨rfl, HT.out.below HB2.out, OutF.of HB2.out⟩
  case pos =>
    obtain ⟨x, hx, ex⟩ := hasB_iff.1 hh
    have HH := Lib.hid (And.intro hh (And.intro hx ex))
    clear hh hx ex
    go_upto_region 1 with fail
    go_upto_region 3 with (go_at_call 57; refine (has_any H1.out i).mono ?_; rintro e v2 ⟨rfl, hb2⟩; rw [HH.out.1]; have HB2 := Lib.hid (And.intro hb2 (HB.out.trans (hb2.mono HB.out.size))); clear hb2)
    obtain ⟨q, eq⟩ : ∃ q, q = ad i := ⟨_, rfl⟩
    have HS := Lib.hid (fun wz (hz : Below v2.heap.size v2 wz) => show wz.cell? ⟨T, 0, none⟩ = some (.map (some M)) ∧ wz.cell? ⟨g, 0, none⟩ = some (.int .i64 i.1) ∧ wz.cell? ⟨g, 1, none⟩ = some (.int .i64 i.2) ∧ (Instr.lookup 111 (.map (some M)) (idV i) false).run Try.prog wz = .ok (pB q) wz from by
      have hz1 := HB2.out.1.trans (hz.mono HB2.out.1.size)
      have h2 := H1.out.below hz1
      have hg : g < v1.heap.size := by have := HV.out.2.2; omega
      have hk := h2.look i
      unfold ptL at hk
      rw [if_pos (.inr HH.out.1), ← eq] at hk
      exact ⟨h2.cells.1, (hz1.cell (p := ⟨g, 0, none⟩) hg).trans HQ.out.1, (hz1.cell (p := ⟨g, 1, none⟩) hg).trans HQ.out.2, hk⟩)
    have HE := Lib.hid eq
    clear eq q0 q1
    refine wp_region_inv 6 [10, 11, 12, 13, 14, 15] [.val (.pointer (some ⟨T, 0, none⟩)), .val (.pointer (some ⟨T, 0, none⟩)), .val (.pointer (some ⟨T, 0, none⟩)), .val (.map (some M)), .val (.agg #[.int .i64 i.1, .int .i64 i.2]), .val (.pointer (some ⟨q, 0, none⟩))] (fun wz => Below v2.heap.size v2 wz) (by kernel_rfl) (by kernel_rfl) (fun wz wz' hz hb => hz.trans (hb.mono hz.size)) ((Below.refl _ _).drew) (fun u => by simp only [puts, List.foldl_cons, List.foldl_nil]; go_simp; exact rfl) ?_ ?_
    · simp only [List.take_succ_cons, List.take_zero]
      refine Obs.cons (fun u w hS hd => ?_) ?_
      · exact Gv.run (.pointer (some ⟨T, 0, none⟩)) rfl (by go_simp) rfl
      refine Obs.cons (fun u w hS hd => ?_) ?_
      · have d10 : u 10 = .pointer (some ⟨T, 0, none⟩) := dep hd 0 rfl
        rw [d10]
        exact Gv.run (.pointer (some ⟨T, 0, none⟩)) rfl (by go_simp) rfl
      refine Obs.cons (fun u w hS hd => ?_) ?_
      · have d11 : u 11 = .pointer (some ⟨T, 0, none⟩) := dep hd 1 rfl
        rw [d11]
        exact Gv.run (.pointer (some ⟨T, 0, none⟩)) rfl (by go_simp) rfl
      refine Obs.cons (fun u w hS hd => ?_) ?_
      · have d12 : u 12 = .pointer (some ⟨T, 0, none⟩) := dep hd 2 rfl
        rw [d12]
        exact Gv.run (.map (some M)) rfl (by obtain ⟨k0, k1, k2, k3⟩ := HS.out w hS; go_simp) rfl
      refine Obs.cons (fun u w hS hd => ?_) ?_
      · exact Gv.run (.agg #[.int .i64 i.1, .int .i64 i.2]) rfl (by obtain ⟨k0, k1, k2, k3⟩ := HS.out w hS; go_simp) rfl
      refine Obs.cons (fun u w hS hd => ?_) ?_
      · have d13 : u 13 = .map (some M) := dep hd 3 rfl
        have d14 : u 14 = .agg #[.int .i64 i.1, .int .i64 i.2] := dep hd 4 rfl
        rw [d13, d14]
        exact Gv.run (.pointer (some ⟨q, 0, none⟩)) rfl (by obtain ⟨k0, k1, k2, k3⟩ := HS.out w hS; go_simp) rfl
      exact Obs.nil
    intro u v3 hS hd
    have d15 : u 15 = .pointer (some ⟨q, 0, none⟩) := hd 5 (by decide)
    rw [d15]
    simp only [List.drop_succ_cons, List.drop_zero]
    have h3 := H1.out.below (HB2.out.1.trans (hS.mono HB2.out.1.size))
    have he := h3.el x HH.out.2.1
    rw [HH.out.2.2, ← HE.out] at he
    have c3 := (el_cells he).2.2.2.1
    have f3 := cells_free he 3
    have t1 := h3.cells.2
    have ft := cells_free h3.tree 1
    have hne : q ≠ T := by
      have := (h3.apart.2.2.2 x HH.out.2.1).1
      rw [HH.out.2.2, ← HE.out] at this
      exact this
    have hlen : (liveL G L).length ≤ 4096 := Nat.le_trans (List.length_filter_le _ _) HL.out
    obtain ⟨n, en⟩ : ∃ n, n = (liveL G L).length := ⟨_, rfl⟩
    rw [← en] at t1 hlen
    have t1' : ∀ v, (v3.setCell ⟨q, 3, none⟩ v).cell? ⟨T, 1, none⟩ = some (.int .i64 (n : Int)) := fun v => (World.cell?_of_block (set_other v3 v hne.symm)).trans t1
    have ft' : ∀ v, (v3.setCell ⟨q, 3, none⟩ v).frozen? ⟨T, 1, none⟩ = false := fun v => (World.frozen?_of_block (set_other v3 v hne.symm)).trans ft
    have H3 := Lib.hid (And.intro h3 (And.intro (HB2.out.2.trans (hS.mono HB2.out.2.size)) (And.intro en hne)))
    clear hS hd d15 h3 he t1 ft HS en hne
    by_cases hg : goneB G i = true
    · have HD := Lib.hid (show dropR L G i = (G, 12) by unfold dropR; rw [if_neg (by rw [HH.out.1]; decide), if_pos hg])
      rw [hg] at c3
      clear hg f3 t1' ft'
      go_wp2_with fail
      go_ret
      rw [HD.out]
      exact ⟨rfl, HT.out.below H3.out.2.1, OutF.of H3.out.2.1⟩
    · have HD := Lib.hid (show dropR L G i = (G ++ [i], 0) by unfold dropR; rw [if_neg (by rw [HH.out.1]; decide), if_neg hg])
      have hf : goneB G i = false := by cases h : goneB G i <;> simp_all
      rw [hf] at c3
      have HG := Lib.hid (show i ∉ G by rw [goneB_eq] at hf; exact of_decide_eq_false hf)
      clear hg hf
      have c1 : (1 : Int) ≤ (n : Int) := by
        have := live_drop (G := G) (x := x) (by rw [HH.out.2.2]; exact HG.out) HT.out.ok.distinct HH.out.2.1
        have := H3.out.2.2.1
        omega
      go_wp2_with fail
      go_ret
      rw [HD.out]
      have hfin := H3.out.1.dropped HH.out.2.1 (by rw [HH.out.2.2]; exact HG.out)
      rw [HH.out.2.2, ← HE.out, ← H3.out.2.2.1] at hfin
      refine ⟨rfl, hfin, ?_⟩
      have ho : OutF (inT T M ad L) w v3 := OutF.of H3.out.2.1
      refine ⟨ho.os, ho.tape, ho.output, by rw [set_size, set_size]; exact ho.size, fun k hk hn => ?_⟩
      have n1 : k ≠ T := fun e => hn (.inl e)
      have n2 : k ≠ q := fun e => hn (.inr (.inr (.inr ⟨x, HH.out.2.1, by rw [HH.out.2.2, ← HE.out]; exact e⟩)))
      rw [set_other _ _ n1, set_other _ _ n2]
      exact H3.out.2.1.block k hk
end Go.Proofs.Ytpjeggbkhbghaaa
namespace Go.Proofs.Ytpjeggbkhbghaaa
open Go Go.RowKit
set_option maxRecDepth 20000
theorem new_any (w : World) : Calls Try.prog 36 #[] w fun e w' => ∃ T, e = .returned (pB T) ∧ ∃ M ad, TreeH w' T M ad [] [] ∧ (∀ k, inT T M ad [] k → w.heap.size ≤ k) ∧ Below w.heap.size w w' := by
  obtain ⟨v1, ev1⟩ : ∃ v, v = w.alloc (.map #[] 0) := ⟨_, rfl⟩
  obtain ⟨v2, ev2⟩ : ∃ v, v = v1.alloc (elC (0, 0) 0 false (.pointer none) false (.pointer none) (.pointer none) (.pointer none)) := ⟨_, rfl⟩
  obtain ⟨g, eg⟩ : ∃ g, g = w.heap.size := ⟨_, rfl⟩
  have s1 : v1.heap.size = g + 1 := by rw [ev1, eg]; simp
  have s2 : v2.heap.size = g + 2 := by rw [ev2]; simp; omega
  have hm1 : MapIs v1 g (fun _ => 0) [] 0 := ⟨by rw [ev1, eg]; exact (MapKept.heap_alloc w _).1, by simp, by simp, fun p hp => nomatch hp⟩
  have hb1 : Below w.heap.size w v1 := by rw [ev1]; exact (Below.refl _ _).alloc (Nat.le_refl _) _
  have hb2 : Below v1.heap.size v1 v2 := by rw [ev2]; exact (Below.refl _ _).alloc (Nat.le_refl _) _
  have hm2 : MapIs v2 g (fun _ => 0) [] 0 := hm1.keep (hb2.block g (by omega))
  have hst := store_run hm2 (i := (0, 0)) (by simp) (g + 1)
  obtain ⟨v3, ev3⟩ : ∃ v, v = putB v2 g (.map ((([] ++ [((0, 0), 0)] : List (IDt × Nat))).map (entE (adSet (fun _ => 0) (0, 0) (g + 1)))).toArray (0 + 1)) := ⟨_, rfl⟩
  rw [← ev3] at hst
  have hmake := @run_makeMap Try.prog 111 w
  rw [← ev1, ← eg] at hmake
  have HV := Lib.hid (And.intro ev1 (And.intro ev2 (And.intro eg (And.intro s1 s2))))
  have H3 := Lib.hid (And.intro hm2 (And.intro ev3 (And.intro hb1 hb2)))
  have e2 : v1.alloc (.cells #[.int .i64 0, .int .i64 0, .int .i32 0, .bool false, .pointer none, .bool false, .pointer none, .pointer none, .pointer none] 106) = v2 := ev2.symm
  replace hst : (Instr.mapUpdate 111 (.map (some g)) (.agg #[.int .i64 0, .int .i64 0]) (.pointer (some ⟨g + 1, 0, none⟩))).run Try.prog v2 = .ok () v3 := hst
  clear ev1 ev2 ev3 hm1 hm2 hb1 hb2 eg
  go_enter Try.func36, Try.ntmps36
  go_wp2_with fail
  have h3 := H3.out
  have hv := HV.out
  have hs3 : v3.heap.size = g + 2 := by rw [h3.2.1, putB_size]; exact s2
  have hM := h3.1.store (i := (0, 0)) (by simp) (g + 1) (w' := v3) (by rw [h3.2.1]; exact putB_same (by omega))
  have hE : v3.heap[g + 1]? = some (elC (0, 0) 0 false (.pointer none) false (.pointer none) (.pointer none) (.pointer none)) := by
    rw [h3.2.1, putB_other (by omega), hv.2.1, ← s1]
    exact (MapKept.heap_alloc v1 _).1
  obtain ⟨v4, ev4⟩ : ∃ v, v = v3.alloc (.cells #[.map (some g), .int .i64 0] 113) := ⟨_, rfl⟩
  have hb4 : Below v3.heap.size v3 v4 := by rw [ev4]; exact (Below.refl _ _).alloc (Nat.le_refl _) _
  have hT : v4.heap[v3.heap.size]? = some (.cells #[.map (some g), .int .i64 0] 113) := by rw [ev4]; exact (MapKept.heap_alloc v3 _).1
  rw [← ev4]
  go_ret
  refine ⟨v3.heap.size, rfl, g, adSet (fun _ => 0) (0, 0) (g + 1), ⟨.nil, hT, ⟨[] ++ [((0, 0), 0)], 0 + 1, hM.keep (hb4.block g (by omega)), fun i => ?_, rfl⟩, ?_, (fun x hx => nomatch hx), (fun i hi => nomatch hi), List.Pairwise.nil⟩, fun k hk => ?_, ?_⟩
  · rw [show (([] ++ [((0, 0), 0)] : List (IDt × Nat)).map Prod.fst) = [(0, 0)] from rfl, List.mem_singleton]
    exact ⟨.inl, fun h => h.elim id (fun ⟨y, hy, _⟩ => nomatch hy)⟩
  · rw [adSet_same, hb4.block (g + 1) (by omega), hE]
    rfl
  · rw [← hv.2.2.1]
    rcases hk with e | e | e | ⟨x, hx, _⟩
    · omega
    · omega
    · rw [adSet_same] at e
      omega
    · cases hx
  · have hb3 : Below w.heap.size v2 v3 := by
      refine ⟨by rw [h3.2.1]; rfl, by rw [h3.2.1]; rfl, by rw [h3.2.1]; rfl, by omega, fun k hk => ?_⟩
      rw [h3.2.1]
      exact putB_other (by omega)
    have hz := hv.2.2.1
    exact ((h3.2.2.1.trans (h3.2.2.2.mono h3.2.2.1.size)).trans hb3).trans (hb4.mono (by omega))
end Go.Proofs.Ytpjeggbkhbghaaa
