/-
  Digits of numbers, to any base: of no program. By an AI agent.
-/
import Derived.Lib.Hide
namespace Go.Proofs.Ytecphnhdcphgbaa

/-- The i-th digit of x to the base b. -/
def dgt (b x i : Nat) : Nat := x / b ^ i % b
theorem dgt_lt {b : Nat} (hb : 0 < b) (x i : Nat) : dgt b x i < b := Nat.mod_lt _ hb
theorem dgt_le {b : Nat} (hb : 0 < b) (x i : Nat) : dgt b x i ≤ b - 1 := by have := dgt_lt hb x i; omega
theorem dgt_zero_of_lt {b x i : Nat} (h : x < b ^ i) : dgt b x i = 0 := by simp [dgt, Nat.div_eq_of_lt h]
theorem mod_pow_succ' (b x i : Nat) : x % b ^ (i + 1) = x % b ^ i + b ^ i * dgt b x i := by
  rw [Nat.pow_succ, Nat.mod_mul]; rfl
theorem mod_pow_full {b x n : Nat} (h : x < b ^ n) : x % b ^ n = x := Nat.mod_eq_of_lt h
theorem dgt_mod {b : Nat} (x : Nat) {i n : Nat} (h : i < n) : dgt b (x % b ^ n) i = dgt b x i := by
  unfold dgt
  have e : b ^ n = b ^ i * (b * b ^ (n - i - 1)) := by
    rw [← Nat.mul_assoc, ← Nat.pow_succ, ← Nat.pow_add]; congr 1; omega
  rw [e, Nat.mod_mul_right_div_self, Nat.mod_mul_right_mod]
theorem dgt_ext {b x y n : Nat} (hx : x < b ^ n) (hy : y < b ^ n) (h : ∀ i, i < n → dgt b x i = dgt b y i) : x = y := by
  have key : ∀ k, k ≤ n → x % b ^ k = y % b ^ k := by
    intro k
    induction k with
    | zero => intro _; simp [Nat.mod_one]
    | succ k ih => intro hk; rw [mod_pow_succ', mod_pow_succ', ih (by omega), h k (by omega)]
  have := key n (Nat.le_refl _)
  rwa [Nat.mod_eq_of_lt hx, Nat.mod_eq_of_lt hy] at this

/-- What is carried into digit i of a sum. -/
def cry (b x y i : Nat) : Nat := (x % b ^ i + y % b ^ i) / b ^ i
theorem cry_zero (b x y : Nat) : cry b x y 0 = 0 := by simp [cry, Nat.mod_one]
theorem cry_succ {b : Nat} (hb : 0 < b) (x y i : Nat) : cry b x y (i + 1) = (dgt b x i + dgt b y i + cry b x y i) / b := by
  unfold cry
  have hp : 0 < b ^ i := Nat.pow_pos hb
  rw [mod_pow_succ', mod_pow_succ', Nat.pow_succ, ← Nat.div_div_eq_div_mul]
  have e : x % b ^ i + b ^ i * dgt b x i + (y % b ^ i + b ^ i * dgt b y i) = (x % b ^ i + y % b ^ i) + b ^ i * (dgt b x i + dgt b y i) := by
    rw [Nat.mul_add]; omega
  rw [e, Nat.add_mul_div_left _ _ hp]
  congr 1; omega
theorem dgt_add {b : Nat} (hb : 0 < b) (x y i : Nat) : dgt b (x + y) i = (dgt b x i + dgt b y i + cry b x y i) % b := by
  unfold cry dgt
  have hp : 0 < b ^ i := Nat.pow_pos hb
  have e : x + y = (x % b ^ i + y % b ^ i) + b ^ i * (x / b ^ i + y / b ^ i) := by
    have h1 := Nat.mod_add_div x (b ^ i)
    have h2 := Nat.mod_add_div y (b ^ i)
    rw [Nat.mul_add]; omega
  conv => lhs; rw [e, Nat.add_mul_div_left _ _ hp]
  rw [Nat.add_comm, Nat.add_mod (x / b ^ i % b + y / b ^ i % b), Nat.add_mod (x / b ^ i % b), Nat.mod_mod, Nat.mod_mod, ← Nat.add_mod (x / b ^ i), ← Nat.add_mod]
theorem cry_le {b : Nat} (hb : 0 < b) (x y i : Nat) : cry b x y i ≤ 1 := by
  unfold cry
  have hp : 0 < b ^ i := Nat.pow_pos hb
  have h1 := Nat.mod_lt x hp
  have h2 := Nat.mod_lt y hp
  have : (x % b ^ i + y % b ^ i) / b ^ i < 2 := Nat.div_lt_of_lt_mul (by omega)
  omega
theorem cry_full {b x y n : Nat} (hx : x < b ^ n) (hy : y < b ^ n) : cry b x y n = (x + y) / b ^ n := by
  unfold cry; rw [Nat.mod_eq_of_lt hx, Nat.mod_eq_of_lt hy]

/-- What is borrowed off digit i of a difference. -/
def brw (b x y i : Nat) : Nat := if x % b ^ i < y % b ^ i then 1 else 0
theorem brw_zero (b x y : Nat) : brw b x y 0 = 0 := by simp [brw, Nat.mod_one]
theorem brw_le (b x y i : Nat) : brw b x y i ≤ 1 := by unfold brw; split <;> omega
theorem brw_succ {b : Nat} (hb : 0 < b) (x y i : Nat) : brw b x y (i + 1) = if dgt b x i < dgt b y i + brw b x y i then 1 else 0 := by
  unfold brw
  have hp : 0 < b ^ i := Nat.pow_pos hb
  rw [mod_pow_succ', mod_pow_succ']
  have h1 := Nat.mod_lt x hp
  have h2 := Nat.mod_lt y hp
  generalize x % b ^ i = r at *
  generalize y % b ^ i = s at *
  generalize dgt b x i = d at *
  generalize dgt b y i = e at *
  generalize b ^ i = p at *
  rcases Nat.lt_trichotomy d e with h | h | h
  · have : p * (d + 1) ≤ p * e := Nat.mul_le_mul_left _ h
    rw [Nat.mul_add] at this
    rw [if_pos (by omega), if_pos (by split <;> omega)]
  · subst h
    by_cases h3 : r < s
    · rw [if_pos (by omega), if_pos (by rw [if_pos h3]; omega)]
    · rw [if_neg (by omega), if_neg (by rw [if_neg h3]; omega)]
  · have : p * (e + 1) ≤ p * d := Nat.mul_le_mul_left _ h
    rw [Nat.mul_add] at this
    rw [if_neg (by omega), if_neg (by split <;> omega)]
theorem brw_full {b x y n : Nat} (hx : x < b ^ n) (hy : y < b ^ n) : brw b x y n = if x < y then 1 else 0 := by
  unfold brw; rw [Nat.mod_eq_of_lt hx, Nat.mod_eq_of_lt hy]
theorem dgt_sub {b : Nat} (hb : 0 < b) (x y : Nat) {i n : Nat} (hi : i < n) (hy : y < b ^ n) :
    (dgt b (x + b ^ n - y) i : Int) = ((dgt b x i : Int) - dgt b y i - brw b x y i) % (b : Int) := by
  unfold brw dgt
  have hp : 0 < b ^ i := Nat.pow_pos hb
  have e : b ^ n = b ^ i * (b * b ^ (n - i - 1)) := by
    rw [← Nat.mul_assoc, ← Nat.pow_succ, ← Nat.pow_add]; congr 1; omega
  rw [e] at hy ⊢
  generalize b ^ (n - i - 1) = q at *
  have h1 := Nat.mod_lt x hp
  have h2 := Nat.mod_lt y hp
  have d1 := Nat.mod_add_div x (b ^ i)
  have d2 := Nat.mod_add_div y (b ^ i)
  generalize x % b ^ i = r at *
  generalize y % b ^ i = s at *
  generalize x / b ^ i = X at *
  generalize y / b ^ i = Y at *
  generalize b ^ i = p at *
  subst d1 d2
  -- the quotient by p
  have key : ∀ br : Nat, (if r < s then (1 : Nat) else 0) = br → (((r + p * X + p * (b * q) - (s + p * Y)) / p : Nat) : Int) = (X : Int) + b * q - Y - br := by
    intro br hbr
    have hZ : ((r + p * X + p * (b * q) - (s + p * Y) : Nat) : Int) = (r + p * br - s : Int) + p * ((X : Int) + b * q - Y - br) := by
      have : s + p * Y ≤ r + p * X + p * (b * q) := by omega
      rw [Int.ofNat_sub this]
      simp only [Int.natCast_add, Int.natCast_mul, Int.mul_sub, Int.mul_add]
      omega
    rw [Int.natCast_ediv, hZ, Int.add_mul_ediv_left _ _ (by omega), Int.ediv_eq_zero_of_lt]
    · omega
    · subst hbr; split <;> simp <;> omega
    · subst hbr; split <;> simp <;> omega
  rw [Int.natCast_emod, key _ rfl]
  rw [Int.natCast_emod, Int.natCast_emod]
  rw [show (X : Int) + b * q - Y - ((if r < s then (1 : Nat) else 0 : Nat) : Int) = (X - Y - ((if r < s then (1 : Nat) else 0 : Nat) : Int)) + b * q by omega, Int.add_mul_emod_self_left]
  rw [Int.sub_emod ((X : Int) - Y), Int.sub_emod (X : Int) Y, Int.sub_emod ((X : Int) % b - Y % b), Int.sub_emod ((X : Int) % b) ((Y : Int) % b)]

theorem dgt_add_mul {b : Nat} (A z : Nat) {j n : Nat} (h : j < n) : dgt b (A + b ^ n * z) j = dgt b A j := by
  rw [← dgt_mod _ h, Nat.add_mul_mod_self_left, dgt_mod _ h]
theorem dgt_div (b x i : Nat) : x / b ^ (i + 1) = x / b ^ i / b := by rw [Nat.pow_succ, Nat.div_div_eq_div_mul]

/-- A product, digit by digit: what i digits of x give; what k digits of y have put on it; what is carried. -/
def mT (b x y i : Nat) : Nat := (x % b ^ i) * y
def mS (b x y i k : Nat) : Nat := mT b x y i % b ^ (i + k) + dgt b x i * (y % b ^ k) * b ^ i
def mO (b x y i k : Nat) : Nat := mS b x y i k / b ^ (i + k)
theorem mT_zero (b x y : Nat) : mT b x y 0 = 0 := by simp [mT, Nat.mod_one]
theorem mT_succ (b x y i : Nat) : mT b x y (i + 1) = mT b x y i + dgt b x i * y * b ^ i := by
  unfold mT
  rw [mod_pow_succ', Nat.add_mul]
  congr 1
  rw [Nat.mul_comm (b ^ i), Nat.mul_right_comm]
theorem mT_full {b x y n : Nat} (hx : x < b ^ n) : mT b x y n = x * y := by unfold mT; rw [Nat.mod_eq_of_lt hx]
theorem mT_lt {b x y i n : Nat} (hb : 0 < b) (hy : y < b ^ n) : mT b x y i < b ^ (i + n) := by
  unfold mT
  rw [Nat.pow_add]
  exact Nat.mul_lt_mul_of_lt_of_le (Nat.mod_lt _ (Nat.pow_pos hb)) (Nat.le_of_lt hy) (Nat.pow_pos hb)
theorem mS_zero {b x y i : Nat} : mS b x y i 0 = mT b x y i % b ^ i := by simp [mS, Nat.mod_one]
theorem mO_zero {b x y i : Nat} (hb : 0 < b) : mO b x y i 0 = 0 := by
  unfold mO; rw [mS_zero]; exact Nat.div_eq_of_lt (Nat.mod_lt _ (Nat.pow_pos hb))
theorem mS_succ (b x y i k : Nat) : mS b x y i (k + 1) = mS b x y i k + b ^ (i + k) * (dgt b x i * dgt b y k + dgt b (mT b x y i) (i + k)) := by
  unfold mS
  rw [← Nat.add_assoc, mod_pow_succ', mod_pow_succ']
  generalize mT b x y i % b ^ (i + k) = p
  generalize dgt b (mT b x y i) (i + k) = q
  generalize dgt b x i = r
  generalize dgt b y k = s
  generalize y % b ^ k = t
  rw [Nat.pow_add]
  simp only [Nat.mul_add, Nat.add_mul, Nat.mul_assoc, Nat.mul_comm, Nat.mul_left_comm, Nat.add_assoc, Nat.add_comm, Nat.add_left_comm]
theorem mS_div {b x y i k : Nat} (hb : 0 < b) : mS b x y i (k + 1) / b ^ (i + k) = dgt b x i * dgt b y k + dgt b (mT b x y i) (i + k) + mO b x y i k := by
  rw [mS_succ, Nat.add_mul_div_left _ _ (Nat.pow_pos hb)]
  unfold mO
  omega
theorem mO_succ {b x y i k : Nat} (hb : 0 < b) : mO b x y i (k + 1) = (dgt b x i * dgt b y k + dgt b (mT b x y i) (i + k) + mO b x y i k) / b := by
  rw [← mS_div hb]
  unfold mO
  rw [← Nat.add_assoc, dgt_div]
theorem mS_new {b x y i k : Nat} (hb : 0 < b) : dgt b (mS b x y i (k + 1)) (i + k) = (dgt b x i * dgt b y k + dgt b (mT b x y i) (i + k) + mO b x y i k) % b := by
  rw [← mS_div hb]; rfl
theorem mS_old {b x y i k j : Nat} (h : j < i + k) : dgt b (mS b x y i (k + 1)) j = dgt b (mS b x y i k) j := by
  rw [mS_succ, dgt_add_mul _ _ h]
theorem mS_lt {b x y i k : Nat} (hb : 0 < b) : mS b x y i k < b ^ (i + k + 1) := by
  unfold mS
  have h1 := Nat.mod_lt (mT b x y i) (Nat.pow_pos (n := i + k) hb)
  have h2 := dgt_le hb x i
  have h3 : dgt b x i * (y % b ^ k) * b ^ i ≤ (b - 1) * b ^ k * b ^ i :=
    Nat.mul_le_mul_right _ (Nat.mul_le_mul h2 (Nat.le_of_lt (Nat.mod_lt _ (Nat.pow_pos hb))))
  have e1 : (b - 1) * b ^ k * b ^ i = (b - 1) * b ^ (i + k) := by rw [Nat.mul_assoc, ← Nat.pow_add, Nat.add_comm]
  have e2 : b ^ (i + k + 1) = b ^ (i + k) + (b - 1) * b ^ (i + k) := by
    rw [Nat.pow_succ]
    obtain ⟨c, rfl⟩ : ∃ c, b = c + 1 := ⟨b - 1, by omega⟩
    rw [Nat.mul_add, Nat.add_sub_cancel, Nat.mul_comm _ c]; omega
  omega
theorem mO_lt {b x y i k : Nat} (hb : 0 < b) : mO b x y i k < b := by
  unfold mO
  refine Nat.div_lt_of_lt_mul ?_
  rw [← Nat.pow_succ]
  exact mS_lt hb
theorem mS_full {b x y i n : Nat} (hb : 0 < b) (hy : y < b ^ n) : mS b x y i n = mT b x y (i + 1) := by
  unfold mS
  rw [Nat.mod_eq_of_lt (mT_lt hb hy), Nat.mod_eq_of_lt hy, mT_succ]
end Go.Proofs.Ytecphnhdcphgbaa
