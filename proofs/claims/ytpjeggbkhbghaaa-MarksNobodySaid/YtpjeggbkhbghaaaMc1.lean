/-
  Layer 16, the landed code: in, may, Right; cmp.Compare, cmp.Or. By an AI agent.
-/
import Derived.Test.YtpjeggbkhbghaaaTM
import Derived.Test.YtpjeggbkhbghaaaTL
namespace Go.Proofs.Ytpjeggbkhbghaaa
open Go Go.RowKit
set_option maxRecDepth 20000
def inB (n lo hi : Int) : Bool := decide (lo ≤ n) && decide (n ≤ hi)
theorem in_any (n lo hi : Int) (w : World) : Calls Try.prog 38 #[.int .i64 n, .int .i64 lo, .int .i64 hi] w fun e w' => e = .returned (.bool (inB n lo hi)) ∧ w' = w := by
  obtain ⟨r, er⟩ : ∃ r, r = inB n lo hi := ⟨_, rfl⟩
  rw [← er]
  by_cases h1 : lo ≤ n
  · by_cases h2 : n ≤ hi
    · have HD := Lib.hid (show r = true by rw [er]; unfold inB; rw [decide_eq_true h1, decide_eq_true h2]; rfl)
      clear er
      go_enter Try.func38, Try.ntmps38
      go_wp2_with fail
      go_ret
      rw [HD.out]
      exact ⟨rfl, rfl⟩
    · have HD := Lib.hid (show r = false by rw [er]; unfold inB; rw [decide_eq_true h1, decide_eq_false h2]; rfl)
      clear er
      go_enter Try.func38, Try.ntmps38
      go_wp2_with fail
      go_ret
      rw [HD.out]
      exact ⟨rfl, rfl⟩
  · have HD := Lib.hid (show r = false by rw [er]; unfold inB; rw [decide_eq_false h1]; rfl)
    clear er
    go_enter Try.func38, Try.ntmps38
    go_wp2_with fail
    go_ret
    rw [HD.out]
    exact ⟨rfl, rfl⟩
theorem elB_in (a b : Int) (h : ¬ (a = 0 ∧ b = 0)) : elB (a, b) = (inB a 0 4 && inB b 1 1099511627776) := by
  unfold elB elP inB
  rw [Bool.eq_iff_iff]
  simp only [decide_eq_true_eq, Bool.and_eq_true, Prod.mk.injEq]
  constructor
  · rintro (h9 | ⟨h1, h2, h3, h4⟩)
    · exact absurd h9 h
    · exact ⟨⟨h1, h2⟩, h3, h4⟩
  · rintro ⟨⟨h1, h2⟩, h3, h4⟩
    exact .inr ⟨h1, h2, h3, h4⟩
theorem may16_any (i : IDt) (w : World) : Calls Try.prog 39 #[idV i] w fun e w' => e = .returned (.bool (elB i)) ∧ Below w.heap.size w w' := by
  obtain ⟨a, b⟩ := i
  obtain ⟨v1, ev⟩ : ∃ v, v = w.alloc (.cells #[.int .i64 a, .int .i64 b] 27) := ⟨_, rfl⟩
  obtain ⟨g, eg⟩ : ∃ g, g = w.heap.size := ⟨_, rfl⟩
  have hb : Below w.heap.size w v1 := by rw [ev]; exact (Below.refl _ _).alloc (Nat.le_refl _) _
  have hq : v1.cell? ⟨g, 0, none⟩ = some (.int .i64 a) ∧ v1.cell? ⟨g, 1, none⟩ = some (.int .i64 b) := by
    rw [ev, eg]
    simp
  have HB := Lib.hid hb
  have HV := Lib.hid (And.intro ev eg)
  obtain ⟨q0, q1⟩ := hq
  have HI := Lib.hid in_any
  clear ev eg hb
  obtain ⟨r, er⟩ : ∃ r, r = elB (a, b) := ⟨_, rfl⟩
  rw [← er]
  by_cases z : a = 0 ∧ b = 0
  · obtain ⟨rfl, rfl⟩ := z
    have HD := Lib.hid (show r = true by rw [er]; unfold elB elP; simp)
    clear er
    go_enter Try.func39, Try.ntmps39
    go_upto_region 1 with fail
    rw [← HV.out.1, ← HV.out.2]
    go_wp2_with fail
    go_ret
    rw [HD.out]
    exact ⟨rfl, HB.out⟩
  have hid : (a = 0 → ¬ b = 0) := fun h1 h2 => z ⟨h1, h2⟩
  obtain ⟨r1, er1⟩ : ∃ r, r = inB a 0 4 := ⟨_, rfl⟩
  obtain ⟨r2, er2⟩ : ∃ r, r = inB b 1 1099511627776 := ⟨_, rfl⟩
  have HD := Lib.hid (show r = (r1 && r2) by rw [er, er1, er2]; exact elB_in a b z)
  have H1 := Lib.hid (fun wz (x : Int) (h : a = x) => show Calls Try.prog 38 #[.int .i64 x, .int .i64 0, .int .i64 4] wz fun e w' => e = .returned (.bool r1) ∧ w' = wz from by subst h; rw [er1]; exact in_any a 0 4 wz)
  have H2 := Lib.hid (fun wz (x : Int) (h : b = x) => show Calls Try.prog 38 #[.int .i64 x, .int .i64 1, .int .i64 1099511627776] wz fun e w' => e = .returned (.bool r2) ∧ w' = wz from by subst h; rw [er2]; exact in_any b 1 1099511627776 wz)
  have hnn : ¬ (a = 0 ∧ b = 0) := z
  have hdd : (decide (a = 0) && decide (b = 0)) = false := by simpa using hid
  have hbb : (a == 0 && b == 0) = false := by simpa using hid
  clear er er1 er2 z
  go_enter Try.func39, Try.ntmps39
  go_upto_region 1 with fail
  rw [← HV.out.1, ← HV.out.2]
  go_wp2_with fail
  all_goals
    go_at_call 38
    refine (H1.out _ _ (by first | rfl | assumption)).mono ?_
    rintro e w' ⟨rfl, rfl⟩
    cases r1 with
    | false =>
      go_wp2_with fail
      go_ret
      rw [HD.out]
      exact ⟨rfl, HB.out⟩
    | true =>
      go_wp2_with fail
      go_at_call 38
      refine (H2.out _ _ (by first | rfl | assumption)).mono ?_
      rintro e w' ⟨rfl, rfl⟩
      cases r2 with
      | false =>
        go_wp2_with fail
        go_ret
        rw [HD.out]
        exact ⟨rfl, HB.out⟩
      | true =>
        go_wp2_with fail
        go_ret
        rw [HD.out]
        exact ⟨rfl, HB.out⟩
/-- Less, like, more. -/
def cmpI (x y : Int) : Int := if x < y then -1 else if y < x then 1 else 0
theorem nan_any (x : Int) (w : World) : Calls Try.prog 76 #[.int .i64 x] w fun e w' => e = .returned (.bool false) ∧ w' = w := by
  go_enter Try.func76, Try.ntmps76
  go_wp2_with fail
  go_ret
  first | exact ⟨rfl, rfl⟩ | simp
theorem compare_any (x y : Int) (w : World) : Calls Try.prog 62 #[.int .i64 x, .int .i64 y] w fun e w' => e = .returned (.int .i64 (cmpI x y)) ∧ w' = w := by
  have HN := Lib.hid nan_any
  obtain ⟨r, er⟩ : ∃ r, r = cmpI x y := ⟨_, rfl⟩
  rw [← er]
  by_cases h1 : x < y
  · have HD := Lib.hid (show r = -1 by rw [er]; unfold cmpI; rw [if_pos h1])
    clear er
    go_enter Try.func62, Try.ntmps62
    go_wp2_with (go_at_call 76; refine (HN.out _ _).mono ?_; rintro e w' ⟨rfl, rfl⟩)
    go_ret
    rw [HD.out]
    exact ⟨rfl, rfl⟩
  · by_cases h2 : y < x
    · have HD := Lib.hid (show r = 1 by rw [er]; unfold cmpI; rw [if_neg h1, if_pos h2])
      clear er
      go_enter Try.func62, Try.ntmps62
      go_wp2_with (go_at_call 76; refine (HN.out _ _).mono ?_; rintro e w' ⟨rfl, rfl⟩)
      go_ret
      rw [HD.out]
      exact ⟨rfl, rfl⟩
    · have HD := Lib.hid (show r = 0 by rw [er]; unfold cmpI; rw [if_neg h1, if_neg h2])
      clear er
      go_enter Try.func62, Try.ntmps62
      go_wp2_with (go_at_call 76; refine (HN.out _ _).mono ?_; rintro e w' ⟨rfl, rfl⟩)
      go_ret
      rw [HD.out]
      exact ⟨rfl, rfl⟩
end Go.Proofs.Ytpjeggbkhbghaaa
