/-
  Layer 17, the landed code: a natural number's float is finite. By an AI agent.
-/
import Derived.Test.YtejfdheiopejeaaCy3
import Derived.Test.YtejfdheiopejeaaFx2
namespace Go.Proofs.Ytejfdheiopejeaa
open Go Go.RowKit
set_option maxRecDepth 20000
theorem run_bits (b : Nat) (w : World) : (callFunc 28 #[.float .f64 b]).run Try.prog w = .ok (.value (.int .u64 (b : Int))) w := by
  rw [run_callFunc_extern Try.func28 (by kernel_rfl) (by kernel_rfl) (by kernel_rfl) (e := Extern.MathFloatBits.float64bits) (by kernel_rfl)]
  rfl
theorem run_frombits (b : Int) (w : World) : (callFunc 27 #[.int .u64 b]).run Try.prog w = .ok (.value (.float .f64 b.toNat)) w := by
  rw [run_callFunc_extern Try.func27 (by kernel_rfl) (by kernel_rfl) (by kernel_rfl) (e := Extern.MathFloatBits.float64frombits) (by kernel_rfl)]
  rfl
theorem no_sign {b : Nat} (hb : b < 9223372036854775808) : bits .andNot .u64 (b : Int) 9223372036854775808 = (b : Int) := by
  show IntKind.u64.wrap ((BitVec.ofInt 64 (b : Int) &&& ~~~ BitVec.ofInt 64 9223372036854775808).toNat : Int) = _
  rw [show ~~~ BitVec.ofInt 64 9223372036854775808 = BitVec.ofNat 64 (2 ^ 63 - 1) by decide, show BitVec.ofInt 64 (b : Int) = BitVec.ofNat 64 b by simp]
  rw [BitVec.toNat_and, BitVec.toNat_ofNat, BitVec.toNat_ofNat, Nat.mod_eq_of_lt (show b < 2 ^ 64 by omega), Nat.mod_eq_of_lt (show 2 ^ 63 - 1 < 2 ^ 64 by decide), Nat.and_two_pow_sub_one_eq_mod, Nat.mod_eq_of_lt (by omega)]
  rw [IntKind.wrap_u64]
  omega
theorem abs_any {b : Nat} (hb : b < 9223372036854775808) (w : World) : Calls Try.prog 26 #[.float .f64 b] w fun e w' => e = .returned (.float .f64 b) ∧ w' = w := by
  have h1 := run_bits b
  have h2 := fun z => run_frombits z
  have h3 := no_sign hb
  go_enter Try.func26, Try.ntmps26
  go_wp2_with fail
  go_ret
  exact ⟨by simp, rfl⟩
theorem isinf_any {b : Nat} (hb : b < 9223372036854775808) (hf : (FloatKind.f64.format.order b 9218868437227405311 == some .gt) = false) (w : World) : Calls Try.prog 25 #[.float .f64 b, .int .i64 0] w fun e w' => e = .returned (.bool false) ∧ w' = w := by
  have HB := Lib.hid hb
  clear hb
  go_enter Try.func25, Try.ntmps25
  go_wp2_with (go_at_call 26; refine (abs_any HB.out w).mono ?_; rintro z wz ⟨rfl, hwz⟩; rw [hwz]; clear hwz wz)
  go_ret
  exact ⟨by first | rfl | simp [hf], rfl⟩
theorem isnan_any {b : Nat} (hf : (FloatKind.f64.format.order b b != some .eq) = false) (w : World) : Calls Try.prog 24 #[.float .f64 b] w fun e w' => e = .returned (.bool false) ∧ w' = w := by
  go_enter Try.func24, Try.ntmps24
  go_wp2_with fail
  go_ret
  exact ⟨by first | rfl | simp [hf], rfl⟩
theorem finite_any {n : Nat} (h : n < 9007199254740992) (w : World) : Calls Try.prog 21 #[.float .f64 (fi (n : Int))] w fun e w' => e = .returned (.bool true) ∧ w' = w := by
  have h1 : fi (n : Int) < 9223372036854775808 := fz_small h
  have h2 : (FloatKind.f64.format.order (fi (n : Int)) 9218868437227405311 == some .gt) = false := fz_finite (by omega) (by omega)
  have h3 : (FloatKind.f64.format.order (fi (n : Int)) (fi (n : Int)) != some .eq) = false := by
    have := eq_fit (x := (n : Int)) (y := (n : Int)) (by unfold Fit; omega) (by unfold Fit; omega)
    rw [decide_eq_true rfl] at this
    rw [bne, this]
    rfl
  obtain ⟨b, eb⟩ : ∃ b, b = fi (n : Int) := ⟨_, rfl⟩
  rw [← eb] at h1 h2 h3 ⊢
  have HH := Lib.hid (And.intro h1 (And.intro h2 h3))
  clear h h1 h2 h3 eb
  go_enter Try.func21, Try.ntmps21
  go_wp2_with (first | (go_at_call 24; refine (isnan_any HH.out.2.2 w).mono ?_; rintro z wz ⟨rfl, hwz⟩; rw [hwz]; clear hwz wz) | (go_at_call 25; refine (isinf_any HH.out.1 HH.out.2.1 w).mono ?_; rintro z wz ⟨rfl, hwz⟩; rw [hwz]; clear hwz wz))
  go_ret
  exact ⟨rfl, rfl⟩
end Go.Proofs.Ytejfdheiopejeaa
