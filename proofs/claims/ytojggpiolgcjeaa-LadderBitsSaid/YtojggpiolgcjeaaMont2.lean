/-
  The ladder of a number is what stands for so many times the point; two that know each one's secret share one number. Of no program. By an AI agent.
-/
import Derived.Test.YtojggpiolgcjeaaMont
namespace Go.Proofs.Ytojggpiolgcjeaa
variable {C : Cv}
theorem Pt.neg_y (p : Pt C) : p.neg.y = p.y := rfl
theorem Pt.back (p r : Pt C) : (p.add r).add r.neg = p := by rw [Pt.assoc, Pt.add_neg, Pt.add_nought]
theorem step_bit (k n : Nat) : k / 2 ^ n = 2 * (k / 2 ^ (n + 1)) + k / 2 ^ n % 2 := by
  rw [Nat.pow_succ, ← Nat.div_div_eq_div_mul]
  omega
theorem lad_ok {r : Pt C} {L : Nat} {U : Fp} {k : Nat} (hd : C.d * 121666 = -121665) (hL : L % 2 = 1) (hr : r.mul L = Pt.nought C) (hU : U * (1 - r.y) = 1 + r.y) (hU0 : U ≠ 0) (hk : k < 2 ^ 255) :
    ∀ n, n ≤ 255 → Ms (lad U k n).x2 (lad U k n).z2 (r.mul (k / 2 ^ (255 - n))) ∧ Ms (lad U k n).x3 (lad U k n).z3 (r.mul (k / 2 ^ (255 - n) + 1))
  | 0, _ => by
    have h0 : k / 2 ^ (255 - 0) = 0 := Nat.div_eq_of_lt hk
    rw [h0]
    refine ⟨⟨?_, .inl ?_⟩, ⟨?_, .inl hU0⟩⟩
    · show (1 : Fp) * (1 - 1) = 0 * (1 + 1); decide +kernel
    · show (1 : Fp) ≠ 0; decide +kernel
    · show U * (1 - (r.mul (0 + 1)).y) = 1 * (1 + (r.mul (0 + 1)).y)
      rw [show r.mul (0 + 1) = r from Pt.mul_one r, hU, Fin.one_mul]
  | n + 1, hn => by
    have ih := lad_ok hd hL hr hU hU0 hk n (by omega)
    have e : 255 - n = (254 - n) + 1 := by omega
    have e' : 255 - (n + 1) = 254 - n := by omega
    have hb := step_bit k (254 - n)
    rw [e] at ih
    rw [e', hb]
    generalize k / 2 ^ (254 - n + 1) = m at *
    obtain ⟨i2, i3⟩ := ih
    have hm : r.mul (m + 1) = (r.mul m).add r := rfl
    have n1 := mul_y_ne hL hr m
    have n2 := mul_y_ne hL hr (m + 1)
    by_cases hbit : k / 2 ^ (254 - n) % 2 = 1
    · have hkb : kbit k (254 - n) = true := decide_eq_true hbit
      rw [hbit]
      have d := Ms.dbl hd i3 _ _ _ rfl rfl rfl
      have a := Ms.add (r := r.neg) i3 i2 (by rw [hm, Pt.back]) (by rw [Pt.neg_y]; exact hU) hU0 (.inl n2) _ _ rfl rfl
      rw [← Pt.mul_two, show 2 * (m + 1) = 2 * m + 1 + 1 by omega] at d
      rw [← Pt.mul_add, show m + 1 + m = 2 * m + 1 by omega] at a
      show Ms (((((lad U k n).swap (kbit k (254 - n))).step U).swap (kbit k (254 - n))).x2) (((((lad U k n).swap (kbit k (254 - n))).step U).swap (kbit k (254 - n))).z2) _ ∧ Ms (((((lad U k n).swap (kbit k (254 - n))).step U).swap (kbit k (254 - n))).x3) (((((lad U k n).swap (kbit k (254 - n))).step U).swap (kbit k (254 - n))).z3) _
      rw [hkb]
      exact ⟨a, d⟩
    · have h0 : k / 2 ^ (254 - n) % 2 = 0 := by omega
      have hkb : kbit k (254 - n) = false := decide_eq_false hbit
      rw [h0]
      have d := Ms.dbl hd i2 _ _ _ rfl rfl rfl
      have a := Ms.add (r := r) i2 i3 hm hU hU0 (.inl n1) _ _ rfl rfl
      rw [← Pt.mul_two] at d
      rw [← Pt.mul_add, show m + (m + 1) = 2 * m + 0 + 1 by omega] at a
      show Ms (((((lad U k n).swap (kbit k (254 - n))).step U).swap (kbit k (254 - n))).x2) (((((lad U k n).swap (kbit k (254 - n))).step U).swap (kbit k (254 - n))).z2) _ ∧ Ms (((((lad U k n).swap (kbit k (254 - n))).step U).swap (kbit k (254 - n))).x3) (((((lad U k n).swap (kbit k (254 - n))).step U).swap (kbit k (254 - n))).z3) _
      rw [hkb]
      exact ⟨d, a⟩
theorem einv_zero : inv (0 : Fp) = 0 := by
  unfold inv
  rw [toF_pow]
  exact pow_zero' rfl _ (by decide +kernel)
theorem quot {l a b i j : Fp} (h1 : l * b * i = 1) (h2 : b * j = 1) : l * a * i = a * j := by grind
theorem Ms.out {X Z : Fp} {p : Pt C} (h : Ms X Z p) : X * inv Z = uo p := by
  obtain ⟨l, hl, rfl, rfl⟩ := h.lam
  unfold uo
  by_cases h0 : 1 - p.y = 0
  · rw [h0, Fin.mul_zero, einv_zero, Fin.mul_zero, Fin.mul_zero]
  · exact quot (einv_mul (mul_ne hl h0)) (einv_mul h0)
theorem ladder_ok {r : Pt C} {L : Nat} {U : Fp} {k : Nat} (hd : C.d * 121666 = -121665) (hL : L % 2 = 1) (hr : r.mul L = Pt.nought C) (hU : U * (1 - r.y) = 1 + r.y) (hU0 : U ≠ 0) (hk : k < 2 ^ 255) : ladder U k = uo (r.mul k) := by
  have h := (lad_ok hd hL hr hU hU0 hk 255 (Nat.le_refl _)).1
  rw [show k / 2 ^ (255 - 255) = k by simp] at h
  exact h.out
/-- Of 0 the ladder makes 0. -/
theorem lad_zero (k : Nat) : ∀ n, ((lad 0 k n).x2 = 0 ∨ (lad 0 k n).z2 = 0) ∧ ((lad 0 k n).x3 = 0 ∨ (lad 0 k n).z3 = 0)
  | 0 => ⟨.inr rfl, .inl rfl⟩
  | n + 1 => by
    have ih := lad_zero k n
    have st : ∀ s : St, (s.x2 = 0 ∨ s.z2 = 0) → ((s.step 0).x2 = 0 ∨ (s.step 0).z2 = 0) ∧ ((s.step 0).x3 = 0 ∨ (s.step 0).z3 = 0) := fun s h => by
      refine ⟨.inr ?_, .inr ?_⟩
      · show ((s.x2 + s.z2) * (s.x2 + s.z2) - (s.x2 - s.z2) * (s.x2 - s.z2)) * _ = (0 : Fp)
        have e : (s.x2 + s.z2) * (s.x2 + s.z2) - (s.x2 - s.z2) * (s.x2 - s.z2) = 4 * (s.x2 * s.z2) := by generalize s.x2 = a; generalize s.z2 = b; grind
        rw [e]
        rcases h with h | h
        · rw [h, Fin.zero_mul, Fin.mul_zero, Fin.zero_mul]
        · rw [h, Fin.mul_zero, Fin.mul_zero, Fin.zero_mul]
      · show (0 : Fp) * _ = 0
        exact Fin.zero_mul _
    rw [show lad 0 k (n + 1) = (((lad 0 k n).swap (kbit k (254 - n))).step 0).swap (kbit k (254 - n)) from rfl]
    cases kbit k (254 - n)
    · exact st _ ih.1
    · have h := st ⟨(lad 0 k n).x3, (lad 0 k n).z3, (lad 0 k n).x2, (lad 0 k n).z2⟩ ih.2
      exact ⟨h.2, h.1⟩
theorem ladder_zero (k : Nat) : ladder 0 k = 0 := by
  unfold ladder
  rcases (lad_zero k 255).1 with h | h
  · rw [h, Fin.zero_mul]
  · rw [h, einv_zero, Fin.mul_zero]
/-! The base point and its number 9. -/
theorem E25_d : E25.d * 121666 = -121665 := by decide +kernel
theorem base_nine : (9 : Fp) * (1 - B25.y) = 1 + B25.y := by decide +kernel
theorem nine_ne : (9 : Fp) ≠ 0 := by decide +kernel
theorem LB_odd : LB % 2 = 1 := by decide +kernel
theorem public_ok {k : Nat} (hk : k < 2 ^ 255) : ladder 9 k = uo (B25.mul k) := ladder_ok E25_d LB_odd base_order base_nine nine_ne hk
theorem one_x {d x y : Fp} (h : y * y - x * x = 1 + d * (x * x) * (y * y)) (hy : y * y = 1) : x * x * (1 + d) = 0 := by grind
theorem sq_one {y : Fp} (h : y = -1) : y * y = 1 := by grind
theorem x_zero {p : Pt E25} (h : p.y * p.y = 1) : p.x = 0 := by
  have h1 := one_x p.on h
  rcases mul_zero' h1 with h2 | h2
  · exact (mul_zero' h2).elim id id
  · exfalso
    revert h2
    show 1 + toF ed = 0 → False
    decide +kernel
theorem uo_nought : uo (Pt.nought C) = 0 := by
  show (1 + 1 : Fp) * inv (1 - 1) = 0
  have : (1 - 1 : Fp) = 0 := by decide +kernel
  rw [this, einv_zero, Fin.mul_zero]
theorem half_neg {y : Fp} (h : 1 + y = 0) : y = -1 := by grind
theorem eq_one {y : Fp} (h : 1 - y = 0) : y = 1 := by grind
theorem zero_ne_one' : (0 : Fp) ≠ 1 := by decide +kernel
/-- A multiple of the base point for which 0 stands is nought. -/
theorem uo_zero {k : Nat} (h : uo (B25.mul k) = 0) : B25.mul k = Pt.nought E25 := by
  unfold uo at h
  rcases mul_zero' h with h1 | h1
  · exfalso
    have hy := half_neg h1
    have hx := x_zero (sq_one hy)
    have e : B25.mul k = ⟨0, -1, on_two rfl rfl⟩ := Pt.ext' hx hy
    have h2 : (B25.mul k).add (B25.mul k) = Pt.nought E25 := by rw [e]; exact Pt.add_is _ _ _ (y4_3 rfl) (y4_4 rfl rfl rfl)
    have h4 : B25.mul (4 * k) = Pt.nought E25 := by
      rw [show 4 * k = 2 * (2 * k) by omega, Pt.mul_two, Pt.mul_two, h2, Pt.add_nought]
    have := odd_four LB_odd base_order k h4
    rw [this] at hy
    revert hy
    show (1 : Fp) = -1 → False
    decide +kernel
  · by_cases h0 : 1 - (B25.mul k).y = 0
    · have hy := eq_one h0
      exact Pt.ext' (x_zero (by rw [hy]; rfl)) hy
    · have := einv_mul h0
      rw [h1, Fin.mul_zero] at this
      exact absurd this zero_ne_one'
theorem uo_mul {y j : Fp} (h : (1 - y) * j = 1) : (1 + y) * j * (1 - y) = 1 + y := by grind
/-- Two share one number. -/
theorem agrees {j k : Nat} (hj : j < 2 ^ 255) (hk : k < 2 ^ 255) : ladder (ladder 9 k) j = ladder (ladder 9 j) k := by
  have key : ∀ j k, j < 2 ^ 255 → k < 2 ^ 255 → ladder (ladder 9 k) j = uo (B25.mul (k * j)) := fun j k hj hk => by
    rw [public_ok hk]
    by_cases h : uo (B25.mul k) = 0
    · rw [h, ladder_zero, ← Pt.mul_mul, uo_zero h, Pt.mul_nought, uo_nought]
    · have hn : 1 - (B25.mul k).y ≠ 0 := fun h0 => h (by unfold uo; rw [h0, einv_zero, Fin.mul_zero])
      rw [← Pt.mul_mul]
      exact ladder_ok E25_d LB_odd (by rw [Pt.mul_mul, Nat.mul_comm, ← Pt.mul_mul, base_order, Pt.mul_nought]) (uo_mul (einv_mul hn)) h hj
  rw [key j k hj hk, key k j hk hj, Nat.mul_comm]
end Go.Proofs.Ytojggpiolgcjeaa
