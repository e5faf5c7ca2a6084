/-
  Numbers modulo 2^255 - 19 as a field; points of -x^2 + y^2 = 1 + d x^2 y^2, d no square: their sums are points, hang on no order and no brackets. Of no program. By an AI agent.
-/
import Derived.Test.YtojggpiolgcjeaaMF
namespace Go.Proofs.Ytojggpiolgcjeaa
theorem P25_big : 2 < P25 := by decide +kernel
instance zeroP : NeZero P25 := ⟨by decide +kernel⟩
abbrev Fp := Fin P25
def toF (n : Nat) : Fp := Fin.ofNat P25 n
theorem toF_val (n : Nat) : (toF n).val = n % P25 := rfl
theorem toF_eq {m n : Nat} : toF m = toF n ↔ m % P25 = n % P25 := ⟨fun h => congrArg Fin.val h, fun h => Fin.ext h⟩
theorem toF_self (x : Fp) : toF x.val = x := Fin.ext (Nat.mod_eq_of_lt x.isLt)
theorem toF_mod (n : Nat) : toF (n % P25) = toF n := toF_eq.2 (Nat.mod_mod _ _)
theorem toF_add (m n : Nat) : toF (m + n) = toF m + toF n := Fin.ext (by rw [Fin.val_add, toF_val, toF_val, toF_val, ← Nat.add_mod])
theorem toF_mul (m n : Nat) : toF (m * n) = toF m * toF n := Fin.ext (by rw [Fin.val_mul, toF_val, toF_val, toF_val, ← Nat.mul_mod])
theorem toF_zero : toF 0 = 0 := rfl
theorem toF_one : toF 1 = 1 := rfl
theorem toF_pow (m k : Nat) : toF (m ^ k) = toF m ^ k := by
  induction k with
  | zero => rfl
  | succ k ih => rw [Nat.pow_succ, toF_mul, ih]; grind
/-- No two numbers but 0 make 0. -/
theorem mul_zero' {x y : Fp} (h : x * y = 0) : x = 0 ∨ y = 0 := by
  have h1 : x.val * y.val % P25 = 0 := by have := congrArg Fin.val h; rwa [Fin.val_mul] at this
  rcases prP.mul (Nat.dvd_of_mod_eq_zero h1) with h2 | h2
  · exact .inl (Fin.ext ((Nat.mod_eq_of_lt x.isLt).symm.trans (Nat.mod_eq_zero_of_dvd h2)))
  · exact .inr (Fin.ext ((Nat.mod_eq_of_lt y.isLt).symm.trans (Nat.mod_eq_zero_of_dvd h2)))
theorem mul_ne {x y : Fp} (hx : x ≠ 0) (hy : y ≠ 0) : x * y ≠ 0 := fun h => (mul_zero' h).elim hx hy
theorem cancel {a x y : Fp} (ha : a ≠ 0) (h : a * x = a * y) : x = y := by
  have : a * (x - y) = 0 := by grind
  rcases mul_zero' this with h1 | h1
  · exact absurd h1 ha
  · grind
def inv (x : Fp) : Fp := toF (x.val ^ (P25 - 2))
theorem einv_mul {x : Fp} (hx : x ≠ 0) : x * inv x = 1 := by
  have h0 : x.val % P25 ≠ 0 := fun h => hx (Fin.ext ((Nat.mod_eq_of_lt x.isLt).symm.trans h))
  have h1 := prP.fermat fun hd => h0 (Nat.mod_eq_zero_of_dvd hd)
  have h2 : x.val * x.val ^ (P25 - 2) = x.val ^ (P25 - 1) := by
    have : P25 - 1 = (P25 - 2) + 1 := by have := P25_big; omega
    rw [this, Nat.pow_succ, Nat.mul_comm]
  unfold inv
  rw [← toF_self x, ← toF_mul, toF_self x, h2, ← toF_mod, h1]
  rfl
theorem two_ne : (2 : Fp) ≠ 0 := fun h => by
  have := congrArg Fin.val h
  revert this
  decide +kernel
section
variable (d i : Fp)
/-- A point. -/
def On (x y : Fp) : Prop := y * y - x * x = 1 + d * (x * x) * (y * y)
end
variable {d i : Fp}
/-- d is no square: what a sum is divided by is never 0. -/
theorem full {x1 y1 x2 y2 e : Fp} (hi : i * i = -1) (hd : ∀ s : Fp, s * s ≠ d) (h1 : On d x1 y1) (h2 : On d x2 y2) (he : e * e = 1) : d * x1 * x2 * y1 * y2 ≠ e := by
  intro h
  unfold On at h1 h2
  have hne : e ≠ 0 := fun h => by rw [h] at he; revert he; decide +kernel
  have hx1 : x1 ≠ 0 := fun h0 => hne (by rw [← h, h0]; grind)
  have hy1 : y1 ≠ 0 := fun h0 => hne (by rw [← h, h0]; grind)
  have hx2 : x2 ≠ 0 := fun h0 => hne (by rw [← h, h0]; grind)
  have hi0 : i ≠ 0 := fun h0 => by rw [h0] at hi; revert hi; decide +kernel
  have k1 : (y1 + e * i * x1) * (y1 + e * i * x1) = d * ((x1 * y1 * (y2 + i * x2)) * (x1 * y1 * (y2 + i * x2))) := by grind
  have k2 : (y1 - e * i * x1) * (y1 - e * i * x1) = d * ((x1 * y1 * (y2 - i * x2)) * (x1 * y1 * (y2 - i * x2))) := by grind
  have key : ∀ a b : Fp, b ≠ 0 → a * a = d * (b * b) → False := fun a b hb hab => by
    have hI := einv_mul hb
    exact hd (a * inv b) (by grind)
  by_cases h0 : y2 + i * x2 = 0
  · refine key _ _ (mul_ne (mul_ne hx1 hy1) ?_) k2
    intro h3
    have : 2 * (i * x2) = 0 := by grind
    rcases mul_zero' this with h4 | h4
    · exact two_ne h4
    · rcases mul_zero' h4 with h5 | h5
      · exact hi0 h5
      · exact hx2 h5
  · exact key _ _ (mul_ne (mul_ne hx1 hy1) h0) k1
end Go.Proofs.Ytojggpiolgcjeaa
