/-
  Layer 17: whole numbers as floats: reading what was written, sums, differences, order; where a float stands among them. Of no program. By an AI agent.
-/
import Derived.Test.YtejfdheiopejeaaFg1
import GoSem.Core.Float
namespace Go.Proofs.Ytejfdheiopejeaa
open Ieee
set_option maxRecDepth 20000
set_option exponentiation.threshold 2000
/-- The datum stands for the whole number z. -/
def Stands (d : Datum) (z : Int) : Prop := ∃ s m i, d = .number s m i ∧ i ≤ 0 ∧ signed s m 0 = z * 2 ^ (-i).toNat ∧ (m = 0 → s = false)
theorem signed_zero (s : Bool) (m : Nat) : signed s m 0 = if s then -(m : Int) else (m : Int) := by
  unfold signed
  simp [Nat.shiftLeft_eq]
theorem signed_up (s : Bool) (m k : Nat) : signed s m k = signed s m 0 * 2 ^ k := by
  unfold signed
  cases s <;> simp [Nat.shiftLeft_eq, Int.neg_mul]
/-- The float of a whole number. -/
abbrev fz (z : Int) : Nat := FloatKind.f64.nearest z
theorem cut_exact (s : Bool) (n k : Nat) : Toward.even.cut s (n * 2 ^ k) k = n := by
  rcases Nat.eq_zero_or_pos n with h0 | h0
  · subst h0
    unfold Toward.cut
    simp
  · have hk : k ≤ (n * 2 ^ k).log2 := (Nat.le_log2 (by have := Nat.two_pow_pos k; have := Nat.mul_pos h0 this; omega)).2 (Nat.le_mul_of_pos_left _ h0)
    unfold Toward.cut
    have hmin : min k ((n * 2 ^ k).log2 + 2) = k := by omega
    simp only [hmin, Nat.one_shiftLeft]
    have hp := Nat.two_pow_pos k
    rw [Nat.mul_div_cancel _ hp, Nat.mul_mod_left]
    simp
theorem log2_scale {n k : Nat} (h : 0 < n) : (n * 2 ^ k).log2 = n.log2 + k := by
  have h1 := (Nat.log2_lt (k := n.log2 + 1) (by omega)).1 (Nat.lt_succ_self _)
  have h2 := Nat.log2_self_le (n := n) (by omega)
  have hp := Nat.two_pow_pos k
  have hne : n * 2 ^ k ≠ 0 := by have := Nat.mul_pos h hp; omega
  have a1 : n.log2 + k ≤ (n * 2 ^ k).log2 := (Nat.le_log2 hne).2 (by rw [Nat.pow_add]; exact Nat.mul_le_mul_right _ h2)
  have a2 : (n * 2 ^ k).log2 < n.log2 + 1 + k := (Nat.log2_lt hne).2 (by rw [Nat.pow_add]; exact (Nat.mul_lt_mul_right hp).2 h1)
  omega
/-- What is written of a whole number, however it is told. -/
theorem near_scale (s : Bool) {n k : Nat} (h : n < 9007199254740992) : double.nearest s (n * 2 ^ k) (-(k : Int)) = double.nearest s n 0 := by
  rcases Nat.eq_zero_or_pos n with h0 | h0
  · subst h0
    unfold Format.nearest
    simp
  · have hp := Nat.two_pow_pos k
    have hne : n * 2 ^ k ≠ 0 := by have := Nat.mul_pos h0 hp; omega
    have hl := log2_scale (k := k) h0
    have h53 : n.log2 < 53 := (Nat.log2_lt (by omega)).2 h
    unfold Format.nearest
    rw [if_neg hne, if_neg (by omega), hl]
    have e1 : max (-(k : Int) + ((n.log2 + k : Nat) : Int) - (double.fractionBits : Int)) double.leastPlace = (n.log2 : Int) - 52 := by
      show max (-(k : Int) + ((n.log2 + k : Nat) : Int) - 52) (-1074) = _
      omega
    have e2 : max ((0 : Int) + (n.log2 : Int) - (double.fractionBits : Int)) double.leastPlace = (n.log2 : Int) - 52 := by
      show max ((0 : Int) + (n.log2 : Int) - 52) (-1074) = _
      omega
    simp only [e1, e2]
    have hc : Toward.even.cut s ((n * 2 ^ k) <<< (-(k : Int) - ((n.log2 : Int) - 52)).toNat) ((n.log2 : Int) - 52 - -(k : Int)).toNat = n * 2 ^ (52 - n.log2) := by
      rw [Nat.shiftLeft_eq]
      by_cases hk : k ≤ 52 - n.log2
      · have h1 : (-(k : Int) - ((n.log2 : Int) - 52)).toNat = 52 - n.log2 - k := by omega
        have h2 : ((n.log2 : Int) - 52 - -(k : Int)).toNat = 0 := by omega
        rw [h1, h2, Nat.mul_assoc, ← Nat.pow_add, show k + (52 - n.log2 - k) = 52 - n.log2 by omega]
        have := cut_exact s (n * 2 ^ (52 - n.log2)) 0
        rwa [Nat.pow_zero, Nat.mul_one] at this
      · have h1 : (-(k : Int) - ((n.log2 : Int) - 52)).toNat = 0 := by omega
        have h2 : ((n.log2 : Int) - 52 - -(k : Int)).toNat = k - (52 - n.log2) := by omega
        rw [h1, h2, Nat.pow_zero, Nat.mul_one]
        have e : n * 2 ^ k = n * 2 ^ (52 - n.log2) * 2 ^ (k - (52 - n.log2)) := by rw [Nat.mul_assoc, ← Nat.pow_add, show 52 - n.log2 + (k - (52 - n.log2)) = k by omega]
        rw [e]
        exact cut_exact s _ _
    have hc0 : Toward.even.cut s (n <<< ((0 : Int) - ((n.log2 : Int) - 52)).toNat) ((n.log2 : Int) - 52 - 0).toNat = n * 2 ^ (52 - n.log2) := by
      rw [Nat.shiftLeft_eq, show ((0 : Int) - ((n.log2 : Int) - 52)).toNat = 52 - n.log2 by omega, show ((n.log2 : Int) - 52 - 0).toNat = 0 by omega]
      have := cut_exact s (n * 2 ^ (52 - n.log2)) 0
      rwa [Nat.pow_zero, Nat.mul_one] at this
    rw [hc, hc0]
/-- What stands in memory for a whole number is read as it. -/
theorem read_near (s : Bool) {n : Nat} (h : n < 9007199254740992) (h0 : 0 < n) : double.read (double.nearest s n 0) = .number s (n * 2 ^ (52 - n.log2)) ((n.log2 : Int) - 52) := by
  have h53 : n.log2 < 53 := (Nat.log2_lt (by omega)).2 h
  have l1 := (Nat.log2_lt (k := n.log2 + 1) (by omega)).1 (Nat.lt_succ_self _)
  have l2 := Nat.log2_self_le (n := n) (by omega)
  obtain ⟨K, eK⟩ : ∃ K, K = n * 2 ^ (52 - n.log2) := ⟨_, rfl⟩
  have k1 : 4503599627370496 ≤ K := by
    rw [eK, show 4503599627370496 = 2 ^ n.log2 * 2 ^ (52 - n.log2) by rw [← Nat.pow_add, show n.log2 + (52 - n.log2) = 52 by omega]]
    exact Nat.mul_le_mul_right _ l2
  have k2 : K < 9007199254740992 := by
    rw [eK, show 9007199254740992 = 2 ^ (n.log2 + 1) * 2 ^ (52 - n.log2) by rw [← Nat.pow_add, show n.log2 + 1 + (52 - n.log2) = 53 by omega]]
    exact (Nat.mul_lt_mul_right (Nat.two_pow_pos _)).2 l1
  have hn : double.nearest s n 0 = double.word s ((n.log2 + 1022) * 4503599627370496 + K) := by
    unfold Format.nearest
    rw [if_neg (by omega)]
    have e2 : max ((0 : Int) + (n.log2 : Int) - (double.fractionBits : Int)) double.leastPlace = (n.log2 : Int) - 52 := by
      show max ((0 : Int) + (n.log2 : Int) - 52) (-1074) = _
      omega
    simp only [e2]
    have hc0 : Toward.even.cut s (n <<< ((0 : Int) - ((n.log2 : Int) - 52)).toNat) ((n.log2 : Int) - 52 - 0).toNat = K := by
      rw [Nat.shiftLeft_eq, show ((0 : Int) - ((n.log2 : Int) - 52)).toNat = 52 - n.log2 by omega, show ((n.log2 : Int) - 52 - 0).toNat = 0 by omega, ← eK]
      have := cut_exact s K 0
      rwa [Nat.pow_zero, Nat.mul_one] at this
    rw [hc0]
    have e3 : ((n.log2 : Int) - 52 - double.leastPlace).toNat = n.log2 + 1022 := by
      show ((n.log2 : Int) - 52 - (-1074)).toNat = _
      omega
    rw [e3]
    show double.word s (min ((n.log2 + 1022) * 4503599627370496 + K) 9218868437227405312) = _
    rw [Nat.min_eq_left (by omega)]
  rw [hn, ← eK]
  obtain ⟨W, eW⟩ : ∃ W, W = (n.log2 + 1022) * 4503599627370496 + K := ⟨_, rfl⟩
  rw [← eW]
  have w1 : W < 9218868437227405312 := by omega
  have w2 : W / 4503599627370496 = n.log2 + 1023 := by omega
  have w3 : 4503599627370496 + W % 4503599627370496 = K := by omega
  have hs : double.word s W / double.signWeight % 2 = (if s then 1 else 0) ∧ double.word s W % double.signWeight = W := by
    show (if s then 9223372036854775808 + W else W) / 9223372036854775808 % 2 = _ ∧ (if s then 9223372036854775808 + W else W) % 9223372036854775808 = W
    cases s
    · simp
      omega
    · simp
      omega
  unfold Format.read
  rw [hs.1, hs.2]
  show (if W < 4503599627370496 then _ else if W < 9218868437227405312 then _ else _) = _
  rw [if_neg (by omega), if_pos w1]
  show Datum.number _ (4503599627370496 + W % 4503599627370496) (-1074 + ((W / 4503599627370496 - 1 : Nat) : Int)) = _
  rw [w3, w2]
  congr 1
  · cases s <;> rfl
  · omega
theorem stands_fz {z : Int} (h1 : -9007199254740992 < z) (h2 : z < 9007199254740992) : Stands (double.read (fz z)) z := by
  have e : fz z = double.nearest (decide (z < 0)) z.natAbs 0 := rfl
  rw [e]
  rcases Int.lt_trichotomy z 0 with h | h | h
  · rw [decide_eq_true h, read_near true (by omega) (by omega)]
    have hl : z.natAbs.log2 < 53 := (Nat.log2_lt (by omega)).2 (by omega)
    refine ⟨_, _, _, rfl, by omega, ?_, fun h0 => ?_⟩
    · rw [signed_zero, if_pos rfl, show (-((z.natAbs.log2 : Int) - 52)).toNat = 52 - z.natAbs.log2 by omega, Int.natCast_mul, Int.natCast_pow, ← Int.neg_mul]
      congr 1
      omega
    · have := Nat.two_pow_pos (52 - z.natAbs.log2)
      have := Nat.mul_pos (show 0 < z.natAbs by omega) this
      omega
  · subst h
    exact ⟨false, 0, -1074, rfl, by decide, by simp [signed_zero], fun _ => rfl⟩
  · rw [decide_eq_false (by omega), read_near false (by omega) (by omega)]
    have hl : z.natAbs.log2 < 53 := (Nat.log2_lt (by omega)).2 (by omega)
    refine ⟨_, _, _, rfl, by omega, ?_, fun _ => rfl⟩
    rw [signed_zero, if_neg (by decide), show (-((z.natAbs.log2 : Int) - 52)).toNat = 52 - z.natAbs.log2 by omega, Int.natCast_mul, Int.natCast_pow]
    congr 1
    omega
/-- What is written of a datum that stands for a whole number. -/
theorem write_stands {d : Datum} {z : Int} (h : Stands d z) (h1 : -9007199254740992 < z) (h2 : z < 9007199254740992) : double.write d = fz z := by
  obtain ⟨s, m, i, rfl, hi, hv, hz⟩ := h
  obtain ⟨k, rfl⟩ : ∃ k : Nat, i = -(k : Int) := ⟨(-i).toNat, by omega⟩
  rw [show (-(-(k : Int))).toNat = k by omega, signed_zero] at hv
  have hp := Nat.two_pow_pos k
  have hm : m = z.natAbs * 2 ^ k := by
    have : (m : Int).natAbs = (z * 2 ^ k).natAbs := by
      rw [← hv]
      cases s <;> simp
    rw [Int.natAbs_mul, Int.natAbs_pow] at this
    simpa using this
  have hs : s = decide (z < 0) := by
    rcases Int.lt_trichotomy z 0 with h | h | h
    · rw [decide_eq_true h]
      cases s with
      | true => rfl
      | false =>
        have hneg : z * 2 ^ k < 0 := Int.mul_neg_of_neg_of_pos h (by exact_mod_cast hp)
        simp only [Bool.false_eq_true, if_false] at hv
        omega
    · subst h
      rw [decide_eq_false (by omega)]
      exact hz (by rw [hm]; simp)
    · rw [decide_eq_false (by omega)]
      cases s with
      | false => rfl
      | true =>
        have hpos : 0 < z * 2 ^ k := Int.mul_pos h (by exact_mod_cast hp)
        simp only [if_true] at hv
        omega
  rw [hm, hs]
  exact near_scale _ (by omega)
theorem stands_base {s : Bool} {m : Nat} {i b : Int} {z : Int} (hi : i ≤ 0) (hb : b ≤ i) (hv : signed s m 0 = z * 2 ^ (-i).toNat) : signed s m (i - b).toNat = z * 2 ^ (-b).toNat := by
  rw [signed_up, hv, Int.mul_assoc, ← Int.pow_add, show (-i).toNat + (i - b).toNat = (-b).toNat by omega]
theorem sum_raw {s t : Bool} {m n : Nat} {i j : Int} {x y : Int} (hi : i ≤ 0) (hj : j ≤ 0) (hv : signed s m 0 = x * 2 ^ (-i).toNat) (hw : signed t n 0 = y * 2 ^ (-j).toNat) (hz : x + y = 0 → (s && t) = false) :
    ∃ r, (Datum.number s m i).sum (Datum.number t n j) = some r ∧ Stands r (x + y) := by
  refine ⟨_, rfl, ?_⟩
  have hv' := stands_base hi (Int.min_le_left i j) hv
  have hw' := stands_base hj (Int.min_le_right i j) hw
  simp only [hv', hw', ← Int.add_mul]
  obtain ⟨b, eb⟩ : ∃ b, b = min i j := ⟨_, rfl⟩
  rw [← eb]
  have hb0 : b ≤ 0 := by omega
  have hp : (0 : Int) < 2 ^ (-b).toNat := by exact_mod_cast Nat.two_pow_pos _
  obtain ⟨q, eq⟩ : ∃ q, q = (x + y) * 2 ^ (-b).toNat := ⟨_, rfl⟩
  rw [← eq]
  refine ⟨_, _, _, rfl, hb0, ?_, fun h0 => ?_⟩
  · rw [signed_zero, ← eq]
    by_cases hq : q = 0
    · rw [if_pos hq, hq]
      cases s && t <;> rfl
    · rw [if_neg hq]
      by_cases hn : q < 0
      · rw [decide_eq_true hn, if_pos rfl]; omega
      · rw [decide_eq_false hn, if_neg (by decide)]; omega
  · have hq : q = 0 := by omega
    rw [if_pos hq]
    refine hz ?_
    rw [hq] at eq
    rcases Int.mul_eq_zero.1 eq.symm with h | h
    · exact h
    · omega
theorem neg_of_stands {m : Nat} {i x : Int} (hv : signed true m 0 = x * 2 ^ (-i).toNat) (hm : m ≠ 0) : x < 0 := by
  have hp : (0 : Int) < 2 ^ (-i).toNat := by exact_mod_cast Nat.two_pow_pos _
  rw [signed_zero, if_pos rfl] at hv
  rcases Int.lt_or_le x 0 with h | h
  · exact h
  · have := Int.mul_nonneg h (Int.le_of_lt hp)
    omega
theorem pos_of_stands {m : Nat} {i x : Int} (hv : signed false m 0 = x * 2 ^ (-i).toNat) : 0 ≤ x := by
  have hp : (0 : Int) < 2 ^ (-i).toNat := by exact_mod_cast Nat.two_pow_pos _
  rw [signed_zero, if_neg (by decide)] at hv
  rcases Int.lt_or_le x 0 with h | h
  · have := Int.mul_neg_of_neg_of_pos h hp
    omega
  · exact h
theorem signed_opp (s : Bool) (m : Nat) : signed (!s) m 0 = - signed s m 0 := by
  rw [signed_zero, signed_zero]
  cases s <;> simp
theorem fadd {x y : Int} (h1 : -9007199254740992 < x) (h2 : x < 9007199254740992) (h3 : -9007199254740992 < y) (h4 : y < 9007199254740992) (h5 : -9007199254740992 < x + y) (h6 : x + y < 9007199254740992) : double.add (fz x) (fz y) = some (fz (x + y)) := by
  obtain ⟨s, m, i, e, hi, hv, hz⟩ := stands_fz h1 h2
  obtain ⟨t, n, j, e', hj, hw, hz'⟩ := stands_fz h3 h4
  obtain ⟨r, hr, hs⟩ := sum_raw hi hj hv hw (fun h => by
    cases s with
    | false => rfl
    | true =>
      cases t with
      | false => rfl
      | true =>
        have a := neg_of_stands hv (fun e => by have := hz e; cases this)
        have b := neg_of_stands hw (fun e => by have := hz' e; cases this)
        omega)
  unfold Format.add
  rw [e, e', hr]
  exact congrArg some (write_stands hs h5 h6)
theorem fsub {x y : Int} (h1 : -9007199254740992 < x) (h2 : x < 9007199254740992) (h3 : -9007199254740992 < y) (h4 : y < 9007199254740992) (h5 : -9007199254740992 < x - y) (h6 : x - y < 9007199254740992) : double.sub (fz x) (fz y) = some (fz (x - y)) := by
  obtain ⟨s, m, i, e, hi, hv, hz⟩ := stands_fz h1 h2
  obtain ⟨t, n, j, e', hj, hw, hz'⟩ := stands_fz h3 h4
  obtain ⟨r, hr, hs⟩ := sum_raw (t := !t) (y := -y) hi hj hv (by rw [signed_opp, hw, Int.neg_mul]) (fun h => by
    cases s with
    | false => rfl
    | true =>
      have a := neg_of_stands hv (fun e => by have := hz e; cases this)
      cases t with
      | true => rfl
      | false =>
        have b := pos_of_stands hw
        omega)
  unfold Format.sub
  rw [e, e']
  show (Datum.sum _ (Datum.number (!t) n j)).map double.write = _
  rw [hr]
  exact congrArg some (write_stands hs h5 h6)
theorem compare_mul {a b k : Int} (h : 0 < k) : compare (a * k) (b * k) = compare a b := by
  simp only [compare, compareOfLessAndEq]
  by_cases h1 : a < b
  · rw [if_pos h1, if_pos (Int.mul_lt_mul_of_pos_right h1 h)]
  · rw [if_neg h1, if_neg (fun hh => h1 (Int.lt_of_mul_lt_mul_right hh (Int.le_of_lt h)))]
    by_cases h2 : a = b
    · rw [if_pos h2, if_pos (by rw [h2])]
    · rw [if_neg h2, if_neg (fun hh => h2 (Int.eq_of_mul_eq_mul_right (by omega) hh))]
theorem forder {x y : Int} (h1 : -9007199254740992 < x) (h2 : x < 9007199254740992) (h3 : -9007199254740992 < y) (h4 : y < 9007199254740992) : double.order (fz x) (fz y) = some (compare x y) := by
  obtain ⟨s, m, i, e, hi, hv, hz⟩ := stands_fz h1 h2
  obtain ⟨t, n, j, e', hj, hw, hz'⟩ := stands_fz h3 h4
  unfold Format.order
  rw [e, e']
  show some (compare (signed s m (i - min i j).toNat) (signed t n (j - min i j).toNat)) = _
  rw [stands_base hi (Int.min_le_left i j) hv, stands_base hj (Int.min_le_right i j) hw, compare_mul (by exact_mod_cast Nat.two_pow_pos _)]
/-- Where a float that is a number stands among the whole ones: there is a greatest that is not more. -/
theorem floor_of {y : Nat} {t : Bool} {n : Nat} {j : Int} (hy : double.read y = .number t n j) : ∃ f : Int, ∀ x : Int, -9007199254740992 < x → x < 9007199254740992 → ∃ o, double.order (fz x) y = some o ∧ ((o = .lt ∨ o = .eq) ↔ x ≤ f) := by
  obtain ⟨b, eb⟩ : ∃ b, b = min j 0 := ⟨_, rfl⟩
  refine ⟨signed t n (j - b).toNat / 2 ^ (-b).toNat, fun x h1 h2 => ?_⟩
  obtain ⟨s, m, i, e, hi, hv, hz⟩ := stands_fz h1 h2
  unfold Format.order
  rw [e, hy]
  refine ⟨_, rfl, ?_⟩
  have hv' := stands_base hi (Int.min_le_left i j) hv
  rw [hv']
  have hp : ∀ k : Nat, (0 : Int) < 2 ^ k := fun k => by exact_mod_cast Nat.two_pow_pos k
  have ho : ∀ a c : Int, (compare a c = .lt ∨ compare a c = .eq) ↔ a ≤ c := fun a c => by
    simp only [compare, compareOfLessAndEq]
    by_cases q1 : a < c
    · simp [q1]; omega
    · by_cases q2 : a = c
      · simp [q2]
      · simp [q1, q2]; omega
  rw [ho, Int.le_ediv_iff_mul_le (hp _)]
  have g1 : signed t n (j - min i j).toNat = signed t n (j - b).toNat * 2 ^ (b - min i j).toNat := by
    rw [signed_up t n (j - min i j).toNat, signed_up t n (j - b).toNat, Int.mul_assoc, ← Int.pow_add, show (j - b).toNat + (b - min i j).toNat = (j - min i j).toNat by omega]
  have g2 : x * 2 ^ (-min i j).toNat = x * 2 ^ (-b).toNat * 2 ^ (b - min i j).toNat := by
    rw [Int.mul_assoc, ← Int.pow_add, show (-b).toNat + (b - min i j).toNat = (-min i j).toNat by omega]
  rw [g1, g2]
  exact ⟨fun h => Int.le_of_mul_le_mul_right h (hp _), fun h => Int.mul_le_mul_of_nonneg_right h (Int.le_of_lt (hp _))⟩
end Go.Proofs.Ytejfdheiopejeaa
