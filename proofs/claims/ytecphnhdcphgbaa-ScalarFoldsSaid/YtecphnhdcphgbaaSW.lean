import Derived.Test.YtecphnhdcphgbaaSL3
import Derived.Test.YtecphnhdcphgbaaSL4
import Derived.Test.YtecphnhdcphgbaaSL6
namespace Go.Proofs.Ytecphnhdcphgbaa
open Go Go.RowKit
theorem can32 {n x : Nat} (h : Can n x) (hx : x < 256 ^ 32) : n ≤ 1000 := Nat.le_trans (h 32 hx) (by decide)
theorem small200 {x y : Nat} (hx : x < 256 ^ 32) (hy : y < 256 ^ 32) : x + y < 256 ^ 200 ∧ x * y < 256 ^ 200 := by
  have h1 : x * y < 256 ^ 32 * 256 ^ 32 := Nat.mul_lt_mul'' hx hy
  have h2 : (256 : Nat) ^ 32 + 256 ^ 32 ≤ 256 ^ 200 := Nat.le_trans (show (256 : Nat) ^ 32 + 256 ^ 32 ≤ 256 ^ 64 by decide +kernel) (Nat.pow_le_pow_right (by decide) (by decide))
  have h3 : (256 : Nat) ^ 32 * 256 ^ 32 ≤ 256 ^ 200 := by rw [← Nat.pow_add]; exact Nat.pow_le_pow_right (by decide) (by decide)
  exact ⟨Nat.lt_of_lt_of_le (Nat.add_lt_add hx hy) h2, Nat.lt_of_lt_of_le h1 h3⟩
theorem is_same {r : Nat} (hr : r < W4) (w : World) (A : Option Addr) (c n : Nat) (h : Dig w w.heap.size A c n r) (_ : Can n r) : Calls Try.prog 14 #[nv r, .slice A n c] w fun e w' => e = .returned (.bool true) ∧ Below w.heap.size w w' := by
  have h := is_any hr hr w h (Nat.le_refl _)
  rw [decide_eq_true rfl] at h
  exact h
theorem products_law {a b : Nat} (la : a < W4) (lb : b < W4) (w : World) : Calls Try.prog 6 #[nv a, nv b] w fun e w' => e = .returned (.bool true) ∧ Below w.heap.size w w' := by
  refine sprod_gen (r := a * b % LL) (x := a % LL) (y := b % LL) (fun w => tmul_any la lb w) (fun w => rest_any la w) (fun w => rest_any lb w) (fun w A A' c c' n n' h1 h2 h3 h4 => ?_) (is_same (LL_lt _)) w
  have h := rsmul_any w h1 h3 (Nat.le_refl _) (can32 h2 (mod_LL_256 a)) (can32 h4 (mod_LL_256 b)) (small200 (mod_LL_256 a) (mod_LL_256 b)).2
  rw [← Nat.mul_mod] at h
  exact h
theorem sums_law {a b : Nat} (la : a < W4) (lb : b < W4) (w : World) : Calls Try.prog 5 #[nv a, nv b] w fun e w' => e = .returned (.bool true) ∧ Below w.heap.size w w' := by
  refine ssum_gen (r := (a + b) % LL) (s := (LL - a % LL) % LL) (x := a % LL) (y := b % LL) (fun w => tadd_any la lb w) (fun w => rest_any la w) (fun w => rest_any lb w) (fun w A A' c c' n n' h1 h2 h3 h4 => ?_) (is_same (LL_lt _))
    (fun w => tneg_any la w) (fun w A c n h1 h2 => rsneg_any w h1 (Nat.le_refl _) (Nat.le_of_lt (Nat.mod_lt _ LL_pos))) (is_same (LL_lt _)) w
  have h := rsadd_any w h1 h3 (Nat.le_refl _) (can32 h2 (mod_LL_256 a)) (can32 h4 (mod_LL_256 b)) (small200 (mod_LL_256 a) (mod_LL_256 b)).1
  rw [← Nat.add_mod] at h
  exact h
theorem to_eqL {F : FuncId} {args : Array Value} {x y : Nat} (e : x = y) {w : World} (h : Calls Try.prog F args w fun e w' => e = .returned (nv x) ∧ Below w.heap.size w w') : Calls Try.prog F args w fun e w' => e = .returned (nv y) ∧ Below w.heap.size w w' := e ▸ h
theorem order_law {a b c : Nat} (la : a < W4) (lb : b < W4) (lc : c < W4) (w : World) : Calls Try.prog 8 #[nv a, nv b, nv c] w fun e w' => e = .returned (.bool true) ∧ Below w.heap.size w w' := by
  refine sord_gen (p := (b + c) % LL) (q := (a + b + c) % LL) (r := (a + b) % LL) (s := b * c % LL) (t := a * b * c % LL) (u_ := a * b % LL) (x := (a * b + a * c) % LL) (y := a * c % LL) (z := (LL - a % LL) % LL)
    (LL_lt _) (LL_lt _) (LL_lt _) (LL_lt _) (LL_lt _) (fun w => tadd_any lb lc w) (fun w => to_eqL ?_ (tadd_any la (LL_lt _) w)) (fun w => tadd_any la lb w) (fun w => to_eqL ?_ (tadd_any (LL_lt _) lc w)) (fun w => to_eqL ?_ (tadd_any lb la w))
    (fun w => tmul_any lb lc w) (fun w => to_eqL ?_ (tmul_any la (LL_lt _) w)) (fun w => tmul_any la lb w) (fun w => to_eqL ?_ (tmul_any (LL_lt _) lc w)) (fun w => to_eqL ?_ (tmul_any lb la w))
    (fun w => to_eqL ?_ (tmul_any la (LL_lt _) w)) (fun w => tmul_any la lc w) (fun w => to_eqL ?_ (tadd_any (LL_lt _) (LL_lt _) w)) (fun w => tneg_any la w) (fun w => to_eqL ?_ (tadd_any la (LL_lt _) w)) w
  · rw [Nat.add_mod, Nat.mod_mod, ← Nat.add_mod, Nat.add_assoc]
  · rw [Nat.add_mod, Nat.mod_mod, ← Nat.add_mod]
  · rw [Nat.add_comm]
  · rw [Nat.mul_mod, Nat.mod_mod, ← Nat.mul_mod, Nat.mul_assoc]
  · rw [Nat.mul_mod, Nat.mod_mod, ← Nat.mul_mod]
  · rw [Nat.mul_comm]
  · rw [Nat.mul_mod, Nat.mod_mod, ← Nat.mul_mod, Nat.mul_add]
  · rw [← Nat.add_mod]
  · have h1 := Nat.mod_lt a LL_pos
    rw [Nat.add_mod, Nat.mod_mod, ← Nat.add_mod, Nat.add_mod a, ← Nat.add_mod]
    rw [← Nat.mod_add_mod, show a % LL + (LL - a % LL) = LL by omega, Nat.mod_self]
end Go.Proofs.Ytecphnhdcphgbaa
