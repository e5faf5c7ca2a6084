import Derived.Test.YticmkcipagmgmaaRead
namespace Go.Proofs.Yticmkcipagmgmaa
open Go Go.RowKit
theorem bt_by (x i : Nat) : by8 x (i / 8) / 2 ^ (i % 8) % 2 = bt x i := by
  have h : ∀ y s, s < 8 → (y % 256) / 2 ^ s % 2 = y / 2 ^ s % 2 := fun y s hs => dgt_mod (b := 2) (n := 8) y hs
  unfold by8 dgt bt
  rw [h _ _ (by omega), Nat.div_div_eq_div_mul, show (256 : Nat) = 2 ^ 8 from rfl, ← Nat.pow_mul, ← Nat.pow_add, Nat.div_add_mod]
def hv (x q k : Nat) : Nat := by8 x q / 2 ^ k
theorem hv_next (x q k : Nat) : hv x q k / 2 = hv x q (k + 1) := by unfold hv; rw [Nat.pow_succ, Nat.div_div_eq_div_mul]
theorem hv_lt (x q k : Nat) : hv x q k < 256 := Nat.lt_of_le_of_lt (Nat.div_le_self _ _) (by8_lt _ _)
theorem rbit_out (x : Nat) (i : Int) (h : i < 0 ∨ 256 ≤ i) (w : World) :
    Calls Try.prog 31 #[nv x, .int .i64 i] w fun e w' => e = .returned (.int .u64 0) ∧ Below w.heap.size w w' := by
  have hb := (Below.refl _ w).alloc (Nat.le_refl _) (A4 x)
  unfold nv
  rcases h with h | h
  · go_enter Try.func31, Try.ntmps31
    go_wp2_with fail
    go_ret
    exact ⟨rfl, hb⟩
  · have h' : ¬ i < 0 := by omega
    have h2 : 255 < i := by omega
    go_enter Try.func31, Try.ntmps31
    go_wp2_with fail
    go_ret
    exact ⟨rfl, hb⟩
theorem rbit_in (x i : Nat) (hx : x < W4) (h : i < 256) (w : World) :
    Calls Try.prog 31 #[nv x, .int .i64 i] w fun e w' => e = .returned (.int .u64 (bt x i : Int)) ∧ Below w.heap.size w w' := by
  have hb := (Below.refl _ w).alloc (Nat.le_refl _) (A4 x)
  have g1 : ¬ (i : Int) < 0 := by omega
  have g2 : ¬ (255 : Int) < i := by omega
  obtain ⟨q, hq⟩ : ∃ q, q = i / 8 := ⟨_, rfl⟩
  obtain ⟨r, hr⟩ : ∃ r, r = i % 8 := ⟨_, rfl⟩
  have g3 : IntKind.i64.wrap ((i : Int) / 8) = (q : Int) := by rw [IntKind.wrap_i64]; omega
  have g3' : wrap64 ((i : Int) / 8) = (q : Int) := by unfold wrap64; omega
  have g3'' : (i : Int) / 8 = (q : Int) := by omega
  have g4 : (i : Int).tmod 8 = (r : Int) := by rw [Int.tmod_eq_emod_of_nonneg (by omega)]; omega
  have g4' : (i : Int) % 8 = (r : Int) := by omega
  have hfin : hv x q r % 2 = bt x i := by rw [hq, hr]; exact bt_by x i
  have HF := Lib.hid hfin
  clear hq hr hfin
  unfold nv
  go_enter Try.func31, Try.ntmps31
  go_wp2_with fail
  go_at_call 20
  refine (digits_any hx _).mono ?_
  rintro e w1 ⟨A1, c1, n1, rfl, d1, hb1⟩
  have hbw := hb.trans (hb1.mono (by simp))
  have D1 := d1.dig
  clear d1 hb1 hb
  go_wp2_with (go_at_call 38; refine (at_any _ D1 q).mono ?_; rintro e w' ⟨rfl, rfl⟩)
  go_loop [5, 6] (fun v j => ∃ k : Nat, k ≤ r ∧ j = .int .i64 k ∧ v = .int .i64 (hv x q k : Int))
    (fun _ j => r - (intOf j).toNat)
  case atStart => exact ⟨0, by omega, rfl, by simp [hv]⟩
  case round =>
    obtain ⟨k, hk, rfl, rfl⟩ := hrel
    by_cases hlt : k < r
    · have g5 : (k : Int) < (r : Int) := by omega
      have e2 : (hv x q k : Int) / 2 = (hv x q (k + 1) : Int) := by rw [← hv_next]; rfl
      have e3 : IntKind.i64.wrap (hv x q (k + 1) : Int) = (hv x q (k + 1) : Int) := by have := hv_lt x q (k + 1); rw [IntKind.wrap_i64]; omega
      have e4 : wrap64 (hv x q (k + 1) : Int) = (hv x q (k + 1) : Int) := by have := hv_lt x q (k + 1); unfold wrap64; omega
      go_wp2_with fail
      go_round
      case rel => exact ⟨k + 1, by omega, by go_num, rfl⟩
      case measure => simp [intOf]; omega
    · have g5 : ¬ (k : Int) < (r : Int) := by omega
      have hk' : k = r := by omega
      subst hk'
      have e2 : (hv x q k : Int).tmod 2 = (bt x i : Int) := by rw [Int.tmod_eq_emod_of_nonneg (by omega), ← HF.out]; rfl
      have e2' : (hv x q k : Int) % 2 = (bt x i : Int) := by rw [← HF.out]; rfl
      have e3 : IntKind.u64.wrap (bt x i : Int) = (bt x i : Int) := by have := bt_le x i; rw [IntKind.wrap_u64]; omega
      go_wp2_with fail
      go_ret
      exact ⟨rfl, hbw⟩
end Go.Proofs.Yticmkcipagmgmaa
