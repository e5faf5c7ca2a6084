/-
  Layer 15, the document's Right: may an element be? By an AI agent.
-/
import Derived.Test.YtpjeggbkhbghaaaFd2
namespace Go.Proofs.Ytpjeggbkhbghaaa
open Go Go.RowKit
set_option maxRecDepth 20000
def idOk (x : Ins) : Bool := decide (0 ≤ x.id.1) && (decide (x.id.1 < 5) && (decide (1 ≤ x.id.2) && decide (x.id.2 ≤ 1099511627776)))
def lowOk (x : Ins) : Bool := decide (0 ≤ x.rune) && decide (x.rune < 55296)
def highOk (x : Ins) : Bool := decide (57343 < x.rune) && decide (x.rune ≤ 1114111)
/-- May an element be? -/
def rightB (x : Ins) : Bool := idOk x && ((lowOk x || highOk x) && (x.right || decide (x.par ≠ (0, 0))))
set_option maxHeartbeats 1600000 in
theorem rright_any (x : Ins) (w : World) : Calls Try.prog 65 #[insV x] w fun e w' => e = .returned (.bool (rightB x)) ∧ Below w.heap.size w w' := by
  obtain ⟨v1, ev⟩ : ∃ v, v = w.alloc (.cells #[.int .i64 x.id.1, .int .i64 x.id.2, .int .i64 x.par.1, .int .i64 x.par.2, .bool x.right, .int .i32 x.rune] 74) := ⟨_, rfl⟩
  obtain ⟨g, eg⟩ : ∃ g, g = w.heap.size := ⟨_, rfl⟩
  have hb : Below w.heap.size w v1 := by rw [ev]; exact (Below.refl _ _).alloc (Nat.le_refl _) _
  have hq : v1.cell? ⟨g, 0, none⟩ = some (.int .i64 x.id.1) ∧ v1.cell? ⟨g, 1, none⟩ = some (.int .i64 x.id.2) ∧ v1.cell? ⟨g, 2, none⟩ = some (.int .i64 x.par.1) ∧ v1.cell? ⟨g, 3, none⟩ = some (.int .i64 x.par.2) ∧ v1.cell? ⟨g, 4, none⟩ = some (.bool x.right) ∧ v1.cell? ⟨g, 5, none⟩ = some (.int .i32 x.rune) := by
    rw [ev, eg]
    simp
  have HV := Lib.hid (And.intro ev eg)
  have HB := Lib.hid hb
  obtain ⟨q0, q1, q2, q3, q4, q5⟩ := hq
  clear ev eg hb
  go_enter Try.func65, Try.ntmps65
  go_upto_region 1 with fail
  rw [← HV.out.1, ← HV.out.2]
  clear HV
  go_cut [3] from 6 to 27 (fun a wx => a = .bool (idOk x) ∧ wx = v1)
  case first =>
    clear q2 q3 q4 q5
    by_cases h1 : 0 ≤ x.id.1
    · by_cases h2 : x.id.1 < 5
      · by_cases h3 : 1 ≤ x.id.2
        · by_cases h4 : x.id.2 ≤ 1099511627776
          · have HI := Lib.hid (show idOk x = true by unfold idOk; simp [h1, h2, h3, h4])
            go_wp2_with fail
            go_meet
            exact ⟨by rw [HI.out], rfl⟩
          · have HI := Lib.hid (show idOk x = false by unfold idOk; simp [h1, h2, h3, h4])
            go_wp2_with fail
            go_meet
            exact ⟨by rw [HI.out], rfl⟩
        · have HI := Lib.hid (show idOk x = false by unfold idOk; simp [h1, h2, h3])
          go_wp2_with fail
          go_meet
          exact ⟨by rw [HI.out], rfl⟩
      · have HI := Lib.hid (show idOk x = false by unfold idOk; simp [h1, h2])
        go_wp2_with fail
        go_meet
        exact ⟨by rw [HI.out], rfl⟩
    · have HI := Lib.hid (show idOk x = false by unfold idOk; simp [h1])
      go_wp2_with fail
      go_meet
      exact ⟨by rw [HI.out], rfl⟩
  case rest =>
    obtain ⟨rfl, rfl⟩ := hcut
    clear q0 q1
    go_upto_region 2 with fail
    go_cut [4] from 28 to 35 (fun a wx => a = .bool (lowOk x) ∧ wx = wc)
    case first =>
      clear q2 q3 q4
      by_cases h1 : 0 ≤ x.rune
      · by_cases h2 : x.rune < 55296
        · have HI := Lib.hid (show lowOk x = true by unfold lowOk; simp [h1, h2])
          go_wp2_with fail
          go_meet
          exact ⟨by rw [HI.out], rfl⟩
        · have HI := Lib.hid (show lowOk x = false by unfold lowOk; simp [h1, h2])
          go_wp2_with fail
          go_meet
          exact ⟨by rw [HI.out], rfl⟩
      · have HI := Lib.hid (show lowOk x = false by unfold lowOk; simp [h1])
        go_wp2_with fail
        go_meet
        exact ⟨by rw [HI.out], rfl⟩
    case rest =>
      obtain ⟨rfl, hw⟩ := hcut
      subst hw
      go_upto_region 3 with fail
      go_cut [5] from 36 to 43 (fun a wx => a = .bool (highOk x) ∧ wx = wc)
      case first =>
        clear q2 q3 q4
        by_cases h1 : 57343 < x.rune
        · by_cases h2 : x.rune ≤ 1114111
          · have HI := Lib.hid (show highOk x = true by unfold highOk; simp [h1, h2])
            go_wp2_with fail
            go_meet
            exact ⟨by rw [HI.out], rfl⟩
          · have HI := Lib.hid (show highOk x = false by unfold highOk; simp [h1, h2])
            go_wp2_with fail
            go_meet
            exact ⟨by rw [HI.out], rfl⟩
        · have HI := Lib.hid (show highOk x = false by unfold highOk; simp [h1])
          go_wp2_with fail
          go_meet
          exact ⟨by rw [HI.out], rfl⟩
      case rest =>
        obtain ⟨rfl, hw⟩ := hcut
        subst hw
        clear q5
        go_upto_region 4 with fail
        have HR := Lib.hid (show rightB x = (idOk x && ((lowOk x || highOk x) && (x.right || decide (x.par ≠ (0, 0))))) from rfl)
        obtain ⟨r, er⟩ : ∃ r, r = x.right := ⟨_, rfl⟩
        obtain ⟨a, ea⟩ : ∃ a, a = idOk x := ⟨_, rfl⟩
        obtain ⟨b, eb⟩ : ∃ b, b = lowOk x := ⟨_, rfl⟩
        obtain ⟨c, ec⟩ : ∃ c, c = highOk x := ⟨_, rfl⟩
        rw [← er] at q4 HR
        rw [← ea, ← eb, ← ec] at HR ⊢
        have HE := Lib.hid (And.intro er (And.intro ea (And.intro eb ec)))
        clear er ea eb ec
        by_cases h1 : x.par.1 = 0
        · by_cases h2 : x.par.2 = 0
          · have hp : x.par = (0, 0) := Prod.ext h1 h2
            have HP := Lib.hid (show decide (x.par ≠ (0, 0)) = false by simp [hp])
            rw [h1] at q2
            rw [h2] at q3
            clear h1 h2 hp
            cases a <;> cases b <;> cases c <;> cases r
            all_goals
              go_wp2_with fail
              go_ret
              rw [HR.out, HP.out]
              exact ⟨rfl, HB.out⟩
          · have HP := Lib.hid (show decide (x.par ≠ (0, 0)) = true from decide_eq_true fun h => h2 (by rw [h]))
            rw [h1] at q2
            clear h1
            cases a <;> cases b <;> cases c <;> cases r
            all_goals
              go_wp2_with fail
              go_ret
              rw [HR.out, HP.out]
              exact ⟨rfl, HB.out⟩
        · have HP := Lib.hid (show decide (x.par ≠ (0, 0)) = true from decide_eq_true fun h => h1 (by rw [h]))
          cases a <;> cases b <;> cases c <;> cases r
          all_goals
            go_wp2_with fail
            go_ret
            rw [HR.out, HP.out]
            exact ⟨rfl, HB.out⟩
end Go.Proofs.Ytpjeggbkhbghaaa
