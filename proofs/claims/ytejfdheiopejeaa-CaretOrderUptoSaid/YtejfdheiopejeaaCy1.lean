/-
  Layer 17, the landed code: whole numbers as floats in a walk; Width, right, below, how many runes. By an AI agent.
-/
import Derived.Test.YtejfdheiopejeaaCx3
import Derived.Laws.ComplexArith
namespace Go.Proofs.Ytejfdheiopejeaa
open Go Go.RowKit
set_option maxRecDepth 20000
/-- A whole number that a float holds. -/
def Fit (z : Int) : Prop := -9007199254740992 < z ∧ z < 9007199254740992
section
variable {P : Program}
theorem floatBits_add {x y : Int} (hx : Fit x) (hy : Fit y) (hz : Fit (x + y)) : floatBits .add .f64 (fi x) (fi y) = some (fi (x + y)) := fadd hx.1 hx.2 hy.1 hy.2 hz.1 hz.2
theorem floatBits_sub {x y : Int} (hx : Fit x) (hy : Fit y) (hz : Fit (x - y)) : floatBits .sub .f64 (fi x) (fi y) = some (fi (x - y)) := fsub hx.1 hx.2 hy.1 hy.2 hz.1 hz.2
theorem run_fadd (w : World) (t : TypeId) {x y : Int} (hx : Fit x) (hy : Fit y) (hz : Fit (x + y)) : (binOp .add t (.float .f64 (fi x)) (.float .f64 (fi y))).run P w = .ok (.float .f64 (fi (x + y))) w :=
  run_float_arith w .add t .f64 _ _ _ (floatBits_add hx hy hz)
theorem run_cadd (w : World) (t : TypeId) {a b c d : Int} (ha : Fit a) (hb : Fit b) (hc : Fit c) (hd : Fit d) (h1 : Fit (a + c)) (h2 : Fit (b + d)) :
    (binOp .add t (.complex .f64 (fi a) (fi b)) (.complex .f64 (fi c) (fi d))).run P w = .ok (.complex .f64 (fi (a + c)) (fi (b + d))) w :=
  run_complex_sum w .add (.inl rfl) t .f64 _ _ _ _ _ _ (by unfold cSumBits; rw [floatBits_add ha hc h1, floatBits_add hb hd h2]; rfl)
theorem run_csub (w : World) (t : TypeId) {a b c d : Int} (ha : Fit a) (hb : Fit b) (hc : Fit c) (hd : Fit d) (h1 : Fit (a - c)) (h2 : Fit (b - d)) :
    (binOp .sub t (.complex .f64 (fi a) (fi b)) (.complex .f64 (fi c) (fi d))).run P w = .ok (.complex .f64 (fi (a - c)) (fi (b - d))) w :=
  run_complex_sum w .sub (.inr rfl) t .f64 _ _ _ _ _ _ (by unfold cSumBits; rw [floatBits_sub ha hc h1, floatBits_sub hb hd h2]; rfl)
end
theorem fi_zero : fi 0 = 0 := by decide +kernel
theorem fi_one : fi 1 = 4607182418800017408 := by decide +kernel
theorem fi_nine : fi 9 = 4621256167635550208 := by decide +kernel
theorem ord_fit {x y : Int} (hx : Fit x) (hy : Fit y) : FloatKind.f64.format.order (floatOfInt .f64 x) (floatOfInt .f64 y) = some (compare x y) := ordF_fi hx.1 hx.2 hy.1 hy.2
theorem gt_fit {x y : Int} (hx : Fit x) (hy : Fit y) : (FloatKind.f64.format.order (floatOfInt .f64 x) (floatOfInt .f64 y) == some .gt) = decide (y < x) := by
  rw [ord_fit hx hy]
  rcases Int.lt_trichotomy x y with h | h | h
  · rw [Int.compare_eq_lt.2 h, decide_eq_false (by omega)]; rfl
  · subst h; rw [Int.compare_eq_eq.2 rfl, decide_eq_false (by omega)]; rfl
  · rw [Int.compare_eq_gt.2 h, decide_eq_true h]; rfl
theorem lt_fit {x y : Int} (hx : Fit x) (hy : Fit y) : (FloatKind.f64.format.order (floatOfInt .f64 x) (floatOfInt .f64 y) == some .lt) = decide (x < y) := by
  rw [ord_fit hx hy]
  rcases Int.lt_trichotomy x y with h | h | h
  · rw [Int.compare_eq_lt.2 h, decide_eq_true h]; rfl
  · subst h; rw [Int.compare_eq_eq.2 rfl, decide_eq_false (by omega)]; rfl
  · rw [Int.compare_eq_gt.2 h, decide_eq_false (by omega)]; rfl
theorem eq_fit {x y : Int} (hx : Fit x) (hy : Fit y) : (FloatKind.f64.format.order (floatOfInt .f64 x) (floatOfInt .f64 y) == some .eq) = decide (x = y) := by
  rw [ord_fit hx hy]
  rcases Int.lt_trichotomy x y with h | h | h
  · rw [Int.compare_eq_lt.2 h, decide_eq_false (by omega)]; rfl
  · subst h; rw [Int.compare_eq_eq.2 rfl, decide_eq_true rfl]; rfl
  · rw [Int.compare_eq_gt.2 h, decide_eq_false (by omega)]; rfl
theorem le_fit {x y : Int} (hx : Fit x) (hy : Fit y) : (FloatKind.f64.format.order (floatOfInt .f64 x) (floatOfInt .f64 y) == some .lt || FloatKind.f64.format.order (floatOfInt .f64 x) (floatOfInt .f64 y) == some .eq) = decide (x ≤ y) := by
  rw [lt_fit hx hy, eq_fit hx hy]
  rcases Int.lt_trichotomy x y with h | h | h
  · rw [decide_eq_true h, decide_eq_true (Int.le_of_lt h)]; rfl
  · rw [decide_eq_false (by omega), decide_eq_true h, decide_eq_true (by omega)]; rfl
  · rw [decide_eq_false (by omega), decide_eq_false (by omega), decide_eq_false (by omega)]; rfl
/-- A caret's place as the code has it. -/
def cpV (st : IDt) : Value := .complex .f64 (fi st.1) (fi st.2)
def cpE : Enc IDt := { size := 1, enc := fun st => [cpV st], len := fun _ => rfl, one := fun st v h => by rcases List.mem_singleton.1 h with rfl; rfl, pos := by decide }
theorem width_any (c : Int) (w : World) : Calls Try.prog 12 #[.int .i32 c] w fun e w' => e = .returned (.int .i64 (wdR c)) ∧ w' = w := by
  obtain ⟨r, hr⟩ : ∃ r, r = wdR c := ⟨_, rfl⟩
  rw [← hr]
  have HR := Lib.hid hr
  clear hr
  go_enter Try.func12, Try.ntmps12
  by_cases h1 : c = 10
  · subst h1
    go_wp2_with fail
    go_ret
    exact ⟨by rw [HR.out]; rfl, rfl⟩
  · by_cases h2 : 4352 ≤ c
    · go_wp2_with fail
      go_ret
      exact ⟨by rw [HR.out]; unfold wdR; rw [if_neg h1, if_pos h2]; rfl, rfl⟩
    · go_wp2_with fail
      go_ret
      exact ⟨by rw [HR.out]; unfold wdR; rw [if_neg h1, if_neg (by omega)]; rfl, rfl⟩
theorem right_any (k : Int) (w : World) : Calls Try.prog 18 #[.int .i64 k] w fun e w' => e = .returned (.bool (decide (2 ≤ k ∧ k ≤ 200))) ∧ w' = w := by
  obtain ⟨r, hr⟩ : ∃ r, r = decide (2 ≤ k ∧ k ≤ 200) := ⟨_, rfl⟩
  rw [← hr]
  have HR := Lib.hid hr
  clear hr
  go_enter Try.func18, Try.ntmps18
  by_cases h1 : 2 ≤ k
  · by_cases h2 : k ≤ 200
    · go_wp2_with fail
      go_ret
      exact ⟨by rw [HR.out, decide_eq_true ⟨h1, h2⟩]; rfl, rfl⟩
    · go_wp2_with fail
      go_ret
      exact ⟨by rw [HR.out, decide_eq_false (by omega)]; rfl, rfl⟩
  · go_wp2_with fail
    go_ret
    exact ⟨by rw [HR.out, decide_eq_false (by omega)]; rfl, rfl⟩
theorem below_any {st : IDt} (h : Fit st.2) (h1 : Fit (st.2 + 1)) (w : World) : Calls Try.prog 23 #[cpV st] w fun e w' => e = .returned (cpV (0, st.2 + 1)) ∧ w' = w := by
  obtain ⟨x, y⟩ := st
  have hadd : (binOp .add 47 (.float .f64 (fi y)) (.float .f64 4607182418800017408)).run Try.prog w = .ok (.float .f64 (fi (y + 1))) w := by
    rw [← fi_one]
    exact run_fadd w 47 h (by unfold Fit; omega) h1
  unfold cpV
  rw [fi_zero]
  dsimp only
  obtain ⟨a, ea⟩ : ∃ a, a = fi x := ⟨_, rfl⟩
  obtain ⟨b, eb⟩ : ∃ a, a = fi y := ⟨_, rfl⟩
  obtain ⟨c, ec⟩ : ∃ a, a = fi (y + 1) := ⟨_, rfl⟩
  rw [← eb, ← ec] at hadd
  rw [← ea, ← eb, ← ec]
  clear ea eb ec h h1
  go_enter Try.func23, Try.ntmps23
  go_wp2_with fail
  go_ret
  exact ⟨rfl, rfl⟩
end Go.Proofs.Ytejfdheiopejeaa
