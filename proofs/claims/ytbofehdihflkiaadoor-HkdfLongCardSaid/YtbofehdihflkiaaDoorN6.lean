/-
  The document's shift and turn (layer 6). By an AI agent.
-/
import Derived.Test.YtbofehdihflkiaaDoorN5
namespace Go.Proofs.YtbofehdihflkiaaDoor
open Go Go.RowKit
def rot1 (b x : Nat) : Nat := x / 2 + x % 2 * 2 ^ (b - 1)
def rotN (b x : Nat) : Nat → Nat
  | 0 => x
  | n + 1 => rot1 b (rotN b x n)
theorem rot1_lt {b x : Nat} (hb : 0 < b) (hx : x < 2 ^ b) : rot1 b x < 2 ^ b := by
  obtain ⟨c, rfl⟩ : ∃ c, b = c + 1 := ⟨b - 1, by omega⟩
  unfold rot1
  rw [Nat.add_sub_cancel]
  rw [Nat.pow_succ] at hx ⊢
  have h := Nat.mod_lt x (show 0 < 2 by decide)
  have : x % 2 = 0 ∨ x % 2 = 1 := by omega
  rcases this with h | h <;> rw [h] <;> omega
theorem rotN_lt {b x : Nat} (hb : 0 < b) (hx : x < 2 ^ b) : ∀ n, rotN b x n < 2 ^ b
  | 0 => hx
  | n + 1 => rot1_lt hb (rotN_lt hb hx n)
def hi2 (k : Nat) : Nat := 2 ^ (k - 1)
theorem hi2_one : hi2 1 = 1 := rfl
theorem hi2_step {k : Nat} (h : 1 ≤ k) : hi2 (k + 1) = hi2 k * 2 := by unfold hi2; rw [show k + 1 - 1 = (k - 1) + 1 by omega, Nat.pow_succ]
def sh2 (x k : Nat) : Nat := x / 2 ^ k
theorem rotN_zero (b x : Nat) : rotN b x 0 = x := rfl
theorem rotN_hi (b x m : Nat) : rotN b x (m + 1) = rotN b x m / 2 + rotN b x m % 2 * hi2 b := rfl
theorem sh2_zero (x : Nat) : sh2 x 0 = x := by simp [sh2]
theorem sh2_half (x k : Nat) : sh2 x k / 2 = sh2 x (k + 1) := by unfold sh2; rw [Nat.div_div_eq_div_mul, ← Nat.pow_succ]
theorem sh2_le (x k : Nat) : sh2 x k ≤ x := Nat.div_le_self _ _
attribute [local irreducible] Kd.cells kf hi2 sh2 rotN
set_option maxRecDepth 20000
theorem shift_gen {x n : Nat} (hx : x < 18446744073709551616) (hn : n ≤ 1000) (hs0 : sh2 x 0 = x) (hs : ∀ k, sh2 x k / 2 = sh2 x (k + 1)) (hle : ∀ k, sh2 x k ≤ x) (w : World) : Calls Tryd.prog 32 #[.int .u64 (x : Int), .int .i64 (n : Int)] w fun en w' => en = .returned (.int .u64 ((sh2 x n : Nat) : Int)) ∧ w' = w := by
  have HS := Lib.hid hs
  have HL := Lib.hid hle
  clear hs hle
  go_enter Tryd.func32, Tryd.ntmps32
  go_wp2_with fail
  go_loop [0, 5] (fun v i => ∃ k : Nat, k ≤ n ∧ i = .int .i64 (k : Int) ∧ v = .int .u64 ((sh2 x k : Nat) : Int))
    (fun _ i => n - (intOf i).toNat)
  case atStart => exact ⟨0, by omega, rfl, by rw [hs0]⟩
  case round =>
    obtain ⟨k, hk, rfl, rfl⟩ := hrel
    have e2 := HS.out k
    have hle := HL.out k
    by_cases hlt : k < n
    · have g1 : (k : Int) < (n : Int) := by omega
      have g2 : (sh2 x k : Int) / 2 = (sh2 x (k + 1) : Int) := by omega
      have g3 : (sh2 x k : Int).tdiv 2 = (sh2 x (k + 1) : Int) := by rw [Int.tdiv_eq_ediv_of_nonneg (by omega), g2]
      have g4 : IntKind.u64.wrap (sh2 x (k + 1) : Int) = (sh2 x (k + 1) : Int) := by rw [IntKind.wrap_u64]; omega
      clear e2 hle hs0
      go_wp2_with fail
      go_round
      case rel => exact ⟨k + 1, by omega, by go_num, rfl⟩
      case measure => simp [intOf]; omega
    · obtain rfl : k = n := by omega
      have g1 : ¬ (k : Int) < (k : Int) := by omega
      clear e2 hs0
      go_wp2_with fail
      go_ret
      exact ⟨rfl, rfl⟩
theorem shift_any {x n : Nat} (hx : x < 18446744073709551616) (hn : n ≤ 1000) (w : World) : Calls Tryd.prog 32 #[.int .u64 (x : Int), .int .i64 (n : Int)] w fun en w' => en = .returned (.int .u64 ((sh2 x n : Nat) : Int)) ∧ w' = w :=
  shift_gen hx hn (sh2_zero x) (sh2_half x) (sh2_le x) w
set_option maxHeartbeats 800000 in
theorem turn_any {K : Kd} {x n b : Nat} (hKb : K.bits = b) (hb : b = 32 ∨ b = 64) (hx : x < 2 ^ b) (hn : n ≤ 1000) (w : World) :
    Calls Tryd.prog 49 #[kv K, .int .u64 (x : Int), .int .i64 (n : Int)] w fun en w' => en = .returned (.int .u64 ((rotN b x n : Nat) : Int)) ∧ Below w.heap.size w w' := by
  have hb1 : 0 < b := by omega
  have hx0 := fun m => rotN_lt hb1 hx m
  have hb64 : 2 ^ b ≤ 18446744073709551616 := by rcases hb with rfl | rfl <;> decide
  have hhp : ∀ k, 1 ≤ k → k ≤ b → hi2 k * 2 ≤ 18446744073709551616 := fun k h1 h2 => by
    unfold hi2
    rw [← Nat.pow_succ, show (k - 1).succ = k by omega]
    exact Nat.le_trans (Nat.pow_le_pow_right (by decide) h2) hb64
  have HHP := Lib.hid hhp
  have HX := Lib.hid hx0
  clear hx0 hhp
  have ok := OK.new (w := w) (Nat.le_refl _) K
  have cb := ok.bits
  rw [hKb] at cb
  have hbb := (Below.refl w.heap.size w).alloc (Nat.le_refl _) (AK K)
  clear ok hKb
  go_enter Tryd.func49, Tryd.ntmps49
  go_wp2_with fail
  obtain ⟨w0, e0⟩ : ∃ v, v = w.alloc (AK K) := ⟨_, rfl⟩
  rw [← e0] at cb hbb ⊢
  clear e0
  go_loop [7, 8] (fun v i => ∃ k : Nat, 1 ≤ k ∧ k ≤ b ∧ i = .int .i64 (k : Int) ∧ v = .int .u64 ((hi2 k : Nat) : Int))
    (fun _ i => b - (intOf i).toNat)
  case atStart => exact ⟨1, by omega, by omega, rfl, by rw [hi2_one]; rfl⟩
  case round =>
    obtain ⟨k, hk1, hk, rfl, rfl⟩ := hrel
    by_cases hlt : k < b
    · have g1 : (k : Int) < (b : Int) := by omega
      have hpow := HHP.out k hk1 hk
      have hst := hi2_step hk1
      have g2 : IntKind.u64.wrap ((hi2 k : Int) * 2) = (hi2 (k + 1) : Int) := by
        have := HHP.out (k + 1) (by omega) (by omega)
        rw [IntKind.wrap_u64]; omega
      clear hpow hst
      go_wp2_with fail
      go_round
      case rel => exact ⟨k + 1, by omega, by omega, by go_num, rfl⟩
      case measure => simp [intOf]; omega
    · obtain rfl : k = b := by omega
      have g1 : ¬ (k : Int) < (k : Int) := by omega
      go_wp2_with fail
      go_loop [1, 9] (fun v i => ∃ m : Nat, m ≤ n ∧ i = .int .i64 (m : Int) ∧ v = .int .u64 ((rotN k x m : Nat) : Int))
        (fun _ i => n - (intOf i).toNat)
      case atStart => exact ⟨0, by omega, rfl, by rw [rotN_zero]⟩
      case round =>
        obtain ⟨m, hm, rfl, rfl⟩ := hrel
        have hy := HX.out m
        have hy2 := HX.out (m + 1)
        have hs := rotN_hi k x m
        generalize hh : hi2 k = h at *
        generalize hz : rotN k x (m + 1) = z at *
        generalize hyv : rotN k x m = y at *
        have HZ := Lib.hid hz
        have HY := Lib.hid hyv
        have HH := Lib.hid hh
        clear hz hyv hh
        by_cases hlt2 : m < n
        · have g3 : (m : Int) < (n : Int) := by omega
          have hdm : y % 2 = 0 ∨ y % 2 = 1 := by omega
          have k1 : (y : Int) / 2 = ((y / 2 : Nat) : Int) := by omega
          have k1' : (y : Int).tdiv 2 = ((y / 2 : Nat) : Int) := by rw [Int.tdiv_eq_ediv_of_nonneg (by omega), k1]
          have k2 : (y : Int) % 2 = ((y % 2 : Nat) : Int) := by omega
          have k2' : (y : Int).tmod 2 = ((y % 2 : Nat) : Int) := by rw [Int.tmod_eq_emod_of_nonneg (by omega), k2]
          have hprod : y % 2 * h ≤ z := by rw [hs]; exact Nat.le_add_left _ _
          have k3 : ((y % 2 : Nat) : Int) * (h : Int) = ((y % 2 * h : Nat) : Int) := (Int.natCast_mul _ _).symm
          obtain ⟨pq, hpq⟩ : ∃ pq, pq = y % 2 * h := ⟨_, rfl⟩
          obtain ⟨yq, hyq⟩ : ∃ yq, yq = y / 2 := ⟨_, rfl⟩
          obtain ⟨ym, hym⟩ : ∃ ym, ym = y % 2 := ⟨_, rfl⟩
          rw [← hpq] at k3 hprod hs
          rw [← hyq] at k1 k1' hs
          rw [← hym] at k2 k2' k3
          have k4 : IntKind.u64.wrap (pq : Int) = (pq : Int) := by rw [IntKind.wrap_u64]; omega
          have k5 : IntKind.u64.wrap ((yq : Int) + (pq : Int)) = (z : Int) := by rw [IntKind.wrap_u64]; omega
          have k6 : IntKind.u64.wrap (yq : Int) = (yq : Int) := by rw [IntKind.wrap_u64]; omega
          have k7 : IntKind.u64.wrap (ym : Int) = (ym : Int) := by rw [IntKind.wrap_u64]; omega
          clear hs hprod hdm hpq hyq hym hy hy2
          go_wp2_with fail
          go_round
          case rel => exact ⟨m + 1, by omega, by go_num, by rw [HZ.out]⟩
          case measure => simp [intOf]; omega
        · obtain rfl : m = n := by omega
          have g3 : ¬ (m : Int) < (m : Int) := by omega
          clear hs hy hy2
          rw [← HY.out] at *
          go_wp2_with fail
          go_ret
          exact ⟨rfl, hbb⟩
end Go.Proofs.YtbofehdihflkiaaDoor
