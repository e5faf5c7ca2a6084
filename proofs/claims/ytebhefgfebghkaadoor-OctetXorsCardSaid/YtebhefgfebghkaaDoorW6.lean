import Derived.Test.YtebhefgfebghkaaDoorW5
namespace Go.Proofs.YtebhefgfebghkaaDoor
open Go Go.RowKit

/-- The number of bytes, the lowest first. -/
def numV : List UInt8 → Nat
  | [] => 0
  | c :: l => c.toNat + 256 * numV l
theorem numV_append (l r : List UInt8) : numV (l ++ r) = numV l + 2 ^ (8 * l.length) * numV r := by
  induction l with
  | nil => simp [numV]
  | cons c l ih =>
    simp only [List.cons_append, numV, ih, List.length_cons, Nat.mul_add, Nat.pow_add]
    rw [show 2 ^ (8 * 1) = 256 from rfl, ← Nat.mul_assoc 256, Nat.mul_comm 256 (2 ^ _)]
    omega
theorem numV_lt (l : List UInt8) : numV l < 2 ^ (8 * l.length) := by
  induction l with
  | nil => simp [numV]
  | cons c l ih =>
    have := UInt8.toNat_lt c
    simp only [numV, List.length_cons, Nat.mul_add, Nat.pow_add]
    rw [show 2 ^ (8 * 1) = 256 from rfl]
    omega
theorem take_snoc {xs : List UInt8} {k : Nat} (h : k < xs.length) : xs.take (k + 1) = xs.take k ++ [xs[k]] := by
  rw [List.take_succ_eq_append_getElem h]
theorem numV_take {xs : List UInt8} {k : Nat} (h : k < xs.length) : numV (xs.take (k + 1)) = numV (xs.take k) + 2 ^ (8 * k) * nth xs k := by
  rw [take_snoc h, numV_append, List.length_take, Nat.min_eq_left (by omega), nth_get h]
  simp [numV]
theorem numV_take_lt {xs : List UInt8} {k : Nat} (h : k ≤ xs.length) : numV (xs.take k) < 2 ^ (8 * k) := by
  have := numV_lt (xs.take k)
  rwa [List.length_take, Nat.min_eq_left h] at this
theorem pow64 {k : Nat} (h : k < 8) : 2 ^ (8 * k) * 256 ≤ 18446744073709551616 := by
  have : 2 ^ (8 * k) * 2 ^ 8 ≤ 2 ^ 64 := by rw [← Nat.pow_add]; exact Nat.pow_le_pow_right (by decide) (by omega)
  exact this
theorem num_bits {xs : List UInt8} {k : Nat} (h : k < xs.length) (h8 : k < 8) :
    bits BinOp.or IntKind.u64 (numV (xs.take k) : Int) ((nth xs k : Int) * 2 ^ (8 * k) % 18446744073709551616) = (numV (xs.take (k + 1)) : Int) := by
  have h1 := numV_take_lt (Nat.le_of_lt h)
  have h2 := nth_lt xs k
  have h3 := pow64 h8
  have h4 : nth xs k * 2 ^ (8 * k) ≤ 255 * 2 ^ (8 * k) := Nat.mul_le_mul_right _ (by omega)
  have h5 : 0 < 2 ^ (8 * k) := Nat.pow_pos (by decide)
  have e : ((nth xs k : Int) * 2 ^ (8 * k) % 18446744073709551616) = ((2 ^ (8 * k) * nth xs k : Nat) : Int) := by
    rw [Int.natCast_mul, Int.natCast_pow, Int.mul_comm]
    have : ((2 ^ (8 * k) * nth xs k : Nat) : Int) < 18446744073709551616 := by rw [Nat.mul_comm]; omega
    rw [Int.natCast_mul, Int.natCast_pow] at this
    refine Int.emod_eq_of_lt (Int.mul_nonneg (Int.le_of_lt (Int.pow_pos (by decide))) (by omega)) this
  rw [e, bits_or_u64_nat _ _ (by omega) (by rw [Nat.mul_comm]; omega), Nat.or_comm, ← Nat.two_pow_add_eq_or_of_lt h1, numV_take h, Nat.add_comm]
set_option maxHeartbeats 400000 in
theorem number_good {A : Option Addr} {c B : Nat} {xs : List UInt8} (w : World) (h1 : Rd w B A c xs) (hl : xs.length ≤ 8) :
    Calls Tryd.prog 26 #[.slice A xs.length c] w fun e w' => e = .returned (.tuple #[.int .u64 (numV xs : Int), .int .i64 0]) ∧ w = w' := by
  have t1 : decide ((8 : Int) < (xs.length : Int)) = false := by simp; omega
  go_enter Tryd.func26, Tryd.ntmps26
  go_wp2
  clear t1
  go_loop [4, 11] (fun u i => ∃ k : Nat, k ≤ xs.length ∧ i = .int .i64 k ∧ u = .int .u64 (numV (xs.take k) : Int)) (fun _ i => xs.length - (intOf i).toNat)
  case atStart => exact ⟨0, Nat.zero_le _, rfl, rfl⟩
  case round =>
    obtain ⟨k, hk, rfl, rfl⟩ := hrel
    by_cases hlt : k < xs.length
    · obtain ⟨b1, o1, rfl, _, e1⟩ := h1.at_ hlt
      have g1 : (k : Int) < (xs.length : Int) := by omega
      have g2 := nth_lt xs k
      go_wp2
      go_round
      case rel =>
        refine ⟨k + 1, by omega, by go_num, ?_⟩
        rw [IntKind.wrap_u64, num_bits hlt (by omega)]
      case measure => simp [intOf]; omega
    · have hk' : k = xs.length := by omega
      subst hk'
      go_wp2
      go_ret2
      exact ⟨by simp, rfl⟩
set_option maxHeartbeats 400000 in
theorem number_long {A : Option Addr} {c : Nat} {n : Nat} (w : World) (hl : 8 < n) :
    Calls Tryd.prog 26 #[.slice A n c] w fun e w' => e = .returned (.tuple #[.int .u64 0, .int .i64 2]) ∧ w = w' := by
  have t1 : decide ((8 : Int) < (n : Int)) = true := by simp; omega
  go_enter Tryd.func26, Tryd.ntmps26
  go_wp2
  go_ret2
  exact ⟨rfl, rfl⟩
end Go.Proofs.YtebhefgfebghkaaDoor
