/-
  Layer 15, the landed code: which of two names is less; what may be. By an AI agent.
-/
import Derived.Test.YtljciakgdpihdaaFu2
namespace Go.Proofs.Ytljciakgdpihdaa
open Go Go.RowKit
set_option maxRecDepth 20000
theorem cless_any (a b : IDt) (w : World) : Calls Try.prog 55 #[idV a, idV b] w fun e w' => e = .returned (.bool (idLt a b)) ∧ Below w.heap.size w w' := by
  have hb : Below w.heap.size w ((w.alloc (.cells #[.int .i64 a.1, .int .i64 a.2] 31)).alloc (.cells #[.int .i64 b.1, .int .i64 b.2] 31)) := ((Below.refl _ _).alloc (Nat.le_refl _) _).alloc (by simp) _
  have HB := Lib.hid hb
  clear hb
  by_cases h : a.1 < b.1
  · have HL := Lib.hid (show idLt a b = true by unfold idLt; rw [if_pos (by omega)]; exact decide_eq_true h)
    go_enter Try.func55, Try.ntmps55
    go_wp2_with fail
    go_ret
    rw [HL.out]
    exact ⟨rfl, HB.out⟩
  · by_cases h2 : a.1 = b.1
    · have HL := Lib.hid (show idLt a b = decide (a.2 < b.2) by unfold idLt; rw [if_neg (fun h' => h' h2)])
      have g1 : (a.1 == b.1) = true := by simp [h2]
      have HH := Lib.hid h2
      clear h2
      go_enter Try.func55, Try.ntmps55
      go_wp2_with fail
      go_ret
      rw [HL.out]
      exact ⟨rfl, HB.out⟩
    · have HL := Lib.hid (show idLt a b = false by unfold idLt; rw [if_pos h2]; exact decide_eq_false h)
      have g1 : (a.1 == b.1) = false := by simp [h2]
      clear h2
      go_enter Try.func55, Try.ntmps55
      go_wp2_with fail
      go_ret
      rw [HL.out]
      exact ⟨rfl, HB.out⟩
theorem valid_any (x : Ins) (w : World) : Calls Try.prog 54 #[.int .i32 x.rune] w fun e w' => e = .returned (.bool (lowOk x || highOk x)) ∧ w' = w := by
  by_cases h1 : 0 ≤ x.rune
  · by_cases h2 : x.rune < 55296
    · have HI := Lib.hid (show (lowOk x || highOk x) = true by unfold lowOk highOk; simp [h1, h2])
      go_enter Try.func54, Try.ntmps54
      go_wp2_with fail
      go_ret
      exact ⟨by rw [HI.out]; rfl, rfl⟩
    · by_cases h3 : 57343 < x.rune
      · by_cases h4 : x.rune ≤ 1114111
        · have HI := Lib.hid (show (lowOk x || highOk x) = true by unfold lowOk highOk; simp [h3, h4])
          go_enter Try.func54, Try.ntmps54
          go_wp2_with fail
          go_ret
          exact ⟨by rw [HI.out]; rfl, rfl⟩
        · have HI := Lib.hid (show (lowOk x || highOk x) = false by unfold lowOk highOk; simp [h2, h4])
          go_enter Try.func54, Try.ntmps54
          go_wp2_with fail
          go_ret
          exact ⟨by rw [HI.out]; rfl, rfl⟩
      · have HI := Lib.hid (show (lowOk x || highOk x) = false by unfold lowOk highOk; simp [h2, h3])
        go_enter Try.func54, Try.ntmps54
        go_wp2_with fail
        go_ret
        exact ⟨by rw [HI.out]; rfl, rfl⟩
  · have h3 : ¬ 57343 < x.rune := by omega
    have HI := Lib.hid (show (lowOk x || highOk x) = false by unfold lowOk highOk; simp [h1, h3])
    go_enter Try.func54, Try.ntmps54
    go_wp2_with fail
    go_ret
    exact ⟨by rw [HI.out]; rfl, rfl⟩
set_option maxHeartbeats 1600000 in
theorem may_any (x : Ins) (w : World) : Calls Try.prog 45 #[insV x] w fun e w' => e = .returned (.bool (rightB x)) ∧ Below w.heap.size w w' := by
  obtain ⟨v1, ev⟩ : ∃ v, v = w.alloc (.cells #[.int .i64 x.id.1, .int .i64 x.id.2, .int .i64 x.par.1, .int .i64 x.par.2, .bool x.right, .int .i32 x.rune] 33) := ⟨_, rfl⟩
  obtain ⟨g, eg⟩ : ∃ g, g = w.heap.size := ⟨_, rfl⟩
  have hb : Below w.heap.size w v1 := by rw [ev]; exact (Below.refl _ _).alloc (Nat.le_refl _) _
  have hq : v1.cell? ⟨g, 0, none⟩ = some (.int .i64 x.id.1) ∧ v1.cell? ⟨g, 1, none⟩ = some (.int .i64 x.id.2) ∧ v1.cell? ⟨g, 2, none⟩ = some (.int .i64 x.par.1) ∧ v1.cell? ⟨g, 3, none⟩ = some (.int .i64 x.par.2) ∧ v1.cell? ⟨g, 4, none⟩ = some (.bool x.right) ∧ v1.cell? ⟨g, 5, none⟩ = some (.int .i32 x.rune) := by
    rw [ev, eg]
    simp
  have HV := Lib.hid (And.intro ev eg)
  have HB := Lib.hid hb
  obtain ⟨q0, q1, q2, q3, q4, q5⟩ := hq
  clear ev eg hb
  obtain ⟨a1, ea1⟩ : ∃ q, q = x.id.1 := ⟨_, rfl⟩
  obtain ⟨a2, ea2⟩ : ∃ q, q = x.id.2 := ⟨_, rfl⟩
  rw [← ea1] at q0
  rw [← ea2] at q1
  have HA := Lib.hid (And.intro ea1 ea2)
  clear ea1 ea2
  have KV := Lib.hid (fun w => valid_any x w)
  go_enter Try.func45, Try.ntmps45
  go_upto_region 1 with fail
  rw [← HV.out.1, ← HV.out.2]
  clear HV
  have HQ5 := Lib.hid (And.intro q2 (And.intro q3 (And.intro q4 q5)))
  clear q2 q3 q4 q5
  go_quiet (fail)
  rename_i hK
  refine hK _ _ ?_
  obtain ⟨v2, ev2⟩ : ∃ v, v = v1.drewN nq := ⟨_, rfl⟩
  rw [← ev2]
  have HB2 := Lib.hid (show Below w.heap.size w v2 by rw [ev2]; exact HB.out.trans (Go.Proofs.Ytljciakgdpihdaa.below_drewN _ _))
  have hqq : v2.cell? ⟨g, 2, none⟩ = some (.int .i64 x.par.1) ∧ v2.cell? ⟨g, 3, none⟩ = some (.int .i64 x.par.2) ∧ v2.cell? ⟨g, 4, none⟩ = some (.bool x.right) ∧ v2.cell? ⟨g, 5, none⟩ = some (.int .i32 x.rune) := by rw [ev2]; exact HQ5.out
  obtain ⟨q2, q3, q4, q5⟩ := hqq
  clear ev2 HB q0 q1 hK HQ5
  by_cases h1 : 0 ≤ a1
  · by_cases h2 : a1 < 5
    · by_cases h3 : 1 ≤ a2
      · by_cases h4 : a2 ≤ 1099511627776
        · have HId := Lib.hid (show idOk x = true by unfold idOk; rw [← HA.out.1, ← HA.out.2]; simp [h1, h2, h3, h4])
          by_cases hv : (lowOk x || highOk x) = true
          · have HVd := Lib.hid hv
            clear hv
            obtain ⟨r, er⟩ : ∃ r, r = x.right := ⟨_, rfl⟩
            rw [← er] at q4
            have HR := Lib.hid (show rightB x = (r || decide (x.par ≠ (0, 0))) by unfold rightB; rw [HId.out, HVd.out, er]; simp)
            clear er
            cases r with
            | true =>
              have HI := Lib.hid (show rightB x = true by rw [HR.out]; rfl)
              clear HR
              go_wp2_with (go_at_call 54; refine (KV.out v2).mono ?_; rintro e wz ⟨rfl, hwz⟩; subst hwz; rw [HVd.out])
              go_ret
              exact ⟨by rw [HI.out]; rfl, HB2.out⟩
            | false =>
              by_cases h5 : x.par.1 = 0
              · by_cases h6 : x.par.2 = 0
                · have hp : x.par = (0, 0) := Prod.ext h5 h6
                  have HI := Lib.hid (show rightB x = false by rw [HR.out]; simp [hp])
                  rw [h5] at q2
                  rw [h6] at q3
                  clear h5 h6 hp HR
                  go_wp2_with (go_at_call 54; refine (KV.out v2).mono ?_; rintro e wz ⟨rfl, hwz⟩; subst hwz; rw [HVd.out])
                  go_ret
                  exact ⟨by rw [HI.out]; rfl, HB2.out⟩
                · have HI := Lib.hid (show rightB x = true by rw [HR.out, decide_eq_true (show x.par ≠ (0, 0) from fun h => h6 (by rw [h]))]; rfl)
                  rw [h5] at q2
                  clear h5 HR
                  go_wp2_with (go_at_call 54; refine (KV.out v2).mono ?_; rintro e wz ⟨rfl, hwz⟩; subst hwz; rw [HVd.out])
                  go_ret
                  exact ⟨by rw [HI.out]; rfl, HB2.out⟩
              · have HI := Lib.hid (show rightB x = true by rw [HR.out, decide_eq_true (show x.par ≠ (0, 0) from fun h => h5 (by rw [h]))]; rfl)
                clear HR
                go_wp2_with (go_at_call 54; refine (KV.out v2).mono ?_; rintro e wz ⟨rfl, hwz⟩; subst hwz; rw [HVd.out])
                go_ret
                exact ⟨by rw [HI.out]; rfl, HB2.out⟩
          · have hv' : (lowOk x || highOk x) = false := by cases h : (lowOk x || highOk x) <;> simp_all
            have HVd := Lib.hid hv'
            have HI := Lib.hid (show rightB x = false by unfold rightB; rw [hv']; simp)
            clear hv hv'
            go_wp2_with (go_at_call 54; refine (KV.out v2).mono ?_; rintro e wz ⟨rfl, hwz⟩; subst hwz; rw [HVd.out])
            go_ret
            exact ⟨by rw [HI.out]; rfl, HB2.out⟩
        · have HI := Lib.hid (show rightB x = false by unfold rightB idOk; rw [← HA.out.1, ← HA.out.2]; simp [h4])
          go_wp2_with fail
          go_ret
          exact ⟨by rw [HI.out]; rfl, HB2.out⟩
      · have HI := Lib.hid (show rightB x = false by unfold rightB idOk; rw [← HA.out.1, ← HA.out.2]; simp [h3])
        go_wp2_with fail
        go_ret
        exact ⟨by rw [HI.out]; rfl, HB2.out⟩
    · have HI := Lib.hid (show rightB x = false by unfold rightB idOk; rw [← HA.out.1, ← HA.out.2]; simp [h2])
      go_wp2_with fail
      go_ret
      exact ⟨by rw [HI.out]; rfl, HB2.out⟩
  · have HI := Lib.hid (show rightB x = false by unfold rightB idOk; rw [← HA.out.1, ← HA.out.2]; simp [h1])
    go_wp2_with fail
    go_ret
    exact ⟨by rw [HI.out]; rfl, HB2.out⟩
end Go.Proofs.Ytljciakgdpihdaa
