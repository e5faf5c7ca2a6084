import Derived.Test.YtecphnhdcphgbaaDoorMP
namespace Go.Proofs.YtecphnhdcphgbaaDoor
/-! The document's way to a root: one of four numbers. -/
def TE : Nat := (P25 - 1) / 4
def TT : Nat := pm P25 256 2 TE
theorem tb_pm (a : Nat) : a ^ TE % P25 = pm P25 256 a TE := (pm_eq P25 256 a TE (by decide +kernel)).symm
theorem TT_sq : TT * TT % P25 = P25 - 1 := by decide +kernel
theorem TT_lt : TT < P25 := by decide +kernel
def XX (a : Nat) : Nat → Nat
  | 0 => a ^ ((P25 - 5) / 8) % P25 * a % P25
  | k + 1 => XX a k * TT % P25
def EE (a k : Nat) : Bool := decide (XX a k % 2 = 0) && decide (XX a k * XX a k % P25 = a)
theorem XX_lt (a : Nat) : ∀ k, XX a k < P25
  | 0 => Nat.mod_lt _ P25_pos
  | _ + 1 => Nat.mod_lt _ P25_pos
theorem RE_five : (P25 - 5) / 8 + 1 = RE := by decide +kernel
theorem XX_zero (a : Nat) : XX a 0 = rt0 a := by
  unfold XX rt0
  rw [← RE_five, Nat.pow_succ, Nat.mod_mul_mod]
theorem EE_root {a k : Nat} (h : EE a k = true) : HasRoot a ∧ XX a k = rt2 a := by
  unfold EE at h
  simp only [Bool.and_eq_true, decide_eq_true_eq] at h
  have hr : HasRoot a := ⟨_, h.2⟩
  refine ⟨hr, ?_⟩
  have h2 := rt2_sq hr
  rcases two_roots (XX_lt a k) (rt2_lt a) (h.2.trans h2.symm) with h3 | h3
  · exact h3
  · have h4 := rt2_even a
    have h5 := P_odd
    omega
theorem neg_of {y : Nat} (hy : y < P25) (h0 : y ≠ 0) : y * (P25 - 1) % P25 = P25 - y := by
  obtain ⟨m, hm⟩ := P25_three
  have e : y * (P25 - 1) = P25 - y + P25 * (y - 1) := by
    obtain ⟨t, rfl⟩ : ∃ t, y = t + 1 := ⟨y - 1, by omega⟩
    rw [show t + 1 - 1 = t by omega, Nat.mul_sub, Nat.mul_one, Nat.mul_comm (t + 1), Nat.mul_add, Nat.mul_one]
    have := Nat.le_mul_of_pos_left t P25_pos
    omega
  rw [e, Nat.add_mul_mod_self_left, Nat.mod_eq_of_lt (by omega)]
theorem XX_two (a k : Nat) : XX a (k + 2) = XX a k * (P25 - 1) % P25 := by
  show XX a k * TT % P25 * TT % P25 = _
  rw [Nat.mod_mul_mod, Nat.mul_assoc, Nat.mul_mod, TT_sq, Nat.mod_mul_mod]
theorem sq_TT (y : Nat) : y * TT % P25 * (y * TT % P25) % P25 = y * y % P25 * (P25 - 1) % P25 := by
  rw [← Nat.mul_mod, Nat.mul_mul_mul_comm, Nat.mul_mod, TT_sq]
theorem sq_IM (y : Nat) : y * IM % P25 * (y * IM % P25) % P25 = y * y % P25 * (P25 - 1) % P25 := by
  rw [← Nat.mul_mod, Nat.mul_mul_mul_comm, Nat.mul_mod, IM_sq]
/-- A root or its negative is even. -/
theorem even_one {a k : Nat} (h : XX a k * XX a k % P25 = a) : EE a k = true ∨ EE a (k + 2) = true := by
  by_cases he : XX a k % 2 = 0
  · left; unfold EE; rw [decide_eq_true he, decide_eq_true h]; rfl
  · right
    have hl := XX_lt a k
    have h0 : XX a k ≠ 0 := fun h0 => he (by rw [h0])
    have e : XX a (k + 2) = P25 - XX a k := by rw [XX_two, neg_of hl h0]
    have hs : XX a (k + 2) * XX a (k + 2) % P25 = a := by
      rw [e]
      have := fneg_sq hl
      rw [fneg_lt hl, if_neg h0] at this
      rw [this, h]
    have hp := P_odd
    unfold EE
    rw [decide_eq_true hs, decide_eq_true (show XX a (k + 2) % 2 = 0 by rw [e]; omega)]
    rfl
theorem root_found {a : Nat} (_ha : a < P25) (h : HasRoot a) : ∃ k, k < 4 ∧ EE a k = true := by
  have h1 := rt1_sq h
  unfold rt1 at h1
  by_cases h0 : rt0 a * rt0 a % P25 = a
  · have hx : XX a 0 * XX a 0 % P25 = a := by rw [XX_zero]; exact h0
    rcases even_one hx with h2 | h2
    · exact ⟨0, by decide, h2⟩
    · exact ⟨2, by decide, h2⟩
  · rw [if_neg h0, sq_IM] at h1
    have hx : XX a 1 * XX a 1 % P25 = a := by
      show XX a 0 * TT % P25 * (XX a 0 * TT % P25) % P25 = a
      rw [XX_zero, sq_TT, h1]
    rcases even_one hx with h2 | h2
    · exact ⟨1, by decide, h2⟩
    · exact ⟨3, by decide, h2⟩
/-- The first of the four, if there is one: what the loop says. -/
theorem root_first {a : Nat} (ha : a < P25) : (∀ k, k < 4 → (∀ j, j < k → EE a j = false) → EE a k = true → rtr a = XX a k ∧ decide (rtq a = 1) = true) ∧ ((∀ k, k < 4 → EE a k = false) → rtr a = 0 ∧ decide (rtq a = 1) = false) := by
  refine ⟨fun k _ _ hk => ?_, fun h => ?_⟩
  · obtain ⟨h1, h2⟩ := EE_root hk
    exact ⟨by rw [rtr_sq h1, h2], decide_eq_true ((rtq_iff a).2 h1)⟩
  · have hn : ¬ HasRoot a := fun hr => by
      obtain ⟨k, hk, he⟩ := root_found ha hr
      rw [h k hk] at he
      cases he
    refine ⟨?_, decide_eq_false fun hq => hn ((rtq_iff a).1 hq)⟩
    unfold rtr
    rw [if_neg fun h => hn ⟨_, h⟩]
theorem half_two : (P25 - 1) / 2 + (P25 - 1) / 2 = P25 - 1 := by decide +kernel
/-- Euler. -/
theorem euler {a : Nat} (ha : a < P25) : (decide (a ^ ((P25 - 1) / 2) % P25 = 1) || decide (a = 0)) = decide (rtq a = 1) := by
  have key : (a ^ ((P25 - 1) / 2) % P25 = 1 ∨ a = 0) ↔ HasRoot a := by
    constructor
    · rintro (h | h)
      · have hx : rt0 a * rt0 a % P25 * (rt0 a * rt0 a % P25) % P25 = a * a % P25 := by
          have e4 : rt0 a * rt0 a * (rt0 a * rt0 a) = rt0 a ^ 4 := by simp [Nat.pow_succ, Nat.mul_assoc]
          rw [← Nat.mul_mod, e4]
          unfold rt0
          rw [← Nat.pow_mod, ← Nat.pow_mul, Nat.mul_comm, RE_four.1, Nat.pow_add, Nat.mul_mod, h, Nat.one_mul, Nat.mod_mod, Nat.pow_succ, Nat.pow_one]
        have hl : rt0 a * rt0 a % P25 < P25 := Nat.mod_lt _ P25_pos
        rcases two_roots hl ha hx with h1 | h1
        · exact ⟨_, h1⟩
        · by_cases h0 : rt0 a * rt0 a % P25 = 0
          · omega
          · exact ⟨rt0 a * IM % P25, by rw [sq_IM, neg_of hl h0]; omega⟩
      · exact ⟨0, by rw [h]; rfl⟩
    · rintro ⟨z, rfl⟩
      by_cases hz : z % P25 = 0
      · right; rw [Nat.mul_mod, hz]; rfl
      · left
        rw [← Nat.pow_mod, show z * z = z ^ 2 by rw [Nat.pow_succ, Nat.pow_one], ← Nat.pow_mul, Nat.two_mul, half_two, ferm hz]
  rw [← Bool.decide_or]
  exact decide_eq_decide.2 (key.trans (rtq_iff a).symm)
end Go.Proofs.YtecphnhdcphgbaaDoor
