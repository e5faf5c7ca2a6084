/-
  The document's most and primes (layer 6), over letters. By an AI agent.
-/
import Derived.Test.YtbofehdihflkiaaDoorN1
namespace Go.Proofs.YtbofehdihflkiaaDoor
open Go Go.RowKit
theorem d6_step {x n : Nat} (h : x < 65536 ^ (n + 1)) (h0 : d6 x n = 0) : x < 65536 ^ n := by
  unfold d6 dgt at h0
  have h1 : x / 65536 ^ n < 65536 := Nat.div_lt_of_lt_mul (by rw [← Nat.pow_succ]; exact h)
  rw [Nat.mod_eq_of_lt h1] at h0
  rcases Nat.div_eq_zero_iff.1 h0 with h2 | h2
  · exact absurd h2 (Nat.ne_of_gt (Nat.pow_pos (by decide)))
  · exact h2
theorem d6_pos {x n : Nat} (h0 : d6 x n ≠ 0) : 65536 ^ n ≤ x := Nat.le_of_not_lt fun h => h0 (d6_top h (Nat.le_refl _))
theorem most_high {X p q m : Nat} (hp : p < 65536) (hm : q < m) (h0 : d6 X m ≠ 0) : p * 65536 ^ q < X := by
  refine Nat.lt_of_lt_of_le ?_ (d6_pos h0)
  refine Nat.lt_of_lt_of_le (Nat.mul_lt_mul_of_pos_right hp (Nat.pow_pos (by decide))) ?_
  rw [Nat.mul_comm, ← Nat.pow_succ]
  exact Nat.pow_le_pow_right (by decide) hm
theorem d6_last {X q : Nat} (h : X < 65536 ^ (q + 1)) : d6 X q = X / 65536 ^ q := by
  unfold d6 dgt
  exact Nat.mod_eq_of_lt (Nat.div_lt_of_lt_mul (by rw [← Nat.pow_succ]; exact h))
theorem most_lt {X p q : Nat} (h : X < 65536 ^ (q + 1)) (h1 : d6 X q < p) : ¬ p * 65536 ^ q < X := by
  rw [d6_last h] at h1
  have h2 := (Nat.div_lt_iff_lt_mul (Nat.pow_pos (by decide))).1 h1
  omega
theorem most_gt {X p q : Nat} (h : X < 65536 ^ (q + 1)) (h1 : p < d6 X q) : p * 65536 ^ q < X := by
  rw [d6_last h] at h1
  have h2 : (p + 1) * 65536 ^ q ≤ X := (Nat.le_div_iff_mul_le (Nat.pow_pos (by decide))).1 h1
  have h3 : 0 < 65536 ^ q := Nat.pow_pos (by decide)
  rw [Nat.add_mul, Nat.one_mul] at h2
  omega
theorem most_eq {X p q : Nat} (h : X < 65536 ^ (q + 1)) (h1 : d6 X q = p) : p * 65536 ^ q < X ↔ X % 65536 ^ q ≠ 0 := by
  rw [d6_last h] at h1
  have h2 := Nat.div_add_mod X (65536 ^ q)
  rw [h1, Nat.mul_comm] at h2
  omega
theorem mod_step6 (X i : Nat) : X % 65536 ^ (i + 1) = X % 65536 ^ i + 65536 ^ i * d6 X i := mod_pow_succ' _ _ _
theorem mod_up6 {X i q : Nat} (hi : i < q) (h : d6 X i ≠ 0) : X % 65536 ^ q ≠ 0 := by
  intro h0
  refine h ?_
  have := dgt_mod (b := 65536) X hi
  rw [h0] at this
  unfold d6
  rw [← this]
  simp [dgt]
attribute [local irreducible] d6
set_option maxRecDepth 20000 in
set_option maxHeartbeats 800000 in
theorem most_any {A : Option Addr} {B c n X p q : Nat} (w : World) (h : RdF w B A c n (dv6 X)) (hX : X < 65536 ^ n) (hp : p < 65536) (hq : q < n) (hn : n ≤ 1000) :
    Calls Tryd.prog 47 #[.slice A n c, .int .i64 (p : Int), .int .i64 (q : Int)] w fun e w' => e = .returned (.bool (decide (p * 65536 ^ q < X))) ∧ w' = w := by
  obtain ⟨r, hr⟩ : ∃ r, r = decide (p * 65536 ^ q < X) := ⟨_, rfl⟩
  rw [← hr]
  have HR := Lib.hid hr
  clear hr
  have g1 : IntKind.i64.wrap ((n : Int) - 1) = (n : Int) - 1 := by rw [IntKind.wrap_i64]; omega
  have gp : IntKind.u64.wrap (p : Int) = (p : Int) := by rw [IntKind.wrap_u64]; omega
  go_enter Tryd.func47, Tryd.ntmps47
  go_wp2_with fail
  go_loop [7] (fun v => ∃ m : Nat, q + 1 ≤ m ∧ m ≤ n ∧ v = .int .i64 ((m : Int) - 1) ∧ X < 65536 ^ m)
    (fun v => (intOf v).toNat)
  case atStart => exact ⟨n, hq, Nat.le_refl _, rfl, hX⟩
  case round =>
    obtain ⟨m, hm1, hm2, rfl, hXm⟩ := hrel
    by_cases hlt : q + 1 < m
    · have g2 : (q : Int) < (m : Int) - 1 := by omega
      have g3 : (m : Int) - 1 < (n : Int) := by omega
      have g4 : (0 : Int) ≤ (m : Int) - 1 := by omega
      have g5 : ((m : Int) - 1).toNat = m - 1 := by omega
      obtain ⟨b1, o1, rfl, hb1, c1⟩ := h.at_ (k := m - 1) (by omega)
      unfold dv6 at c1
      have gw : IntKind.i64.wrap ((m : Int) - 1 - 1) = ((m - 1 : Nat) : Int) - 1 := by rw [IntKind.wrap_i64]; omega
      by_cases h0 : d6 X (m - 1) = 0
      · have g6 : (d6 X (m - 1) : Int) = 0 := by omega
        have hs := d6_step (x := X) (n := m - 1) (by rwa [show m - 1 + 1 = m by omega]) h0
        have HS := Lib.hid hs
        clear hs h0
        rw [g6] at c1
        go_wp2_with fail
        go_round
        case rel => exact ⟨m - 1, by omega, by omega, by go_num, HS.out⟩
        case measure => simp [intOf]; omega
      · have g6 : (0 : Int) < (d6 X (m - 1) : Int) := by omega
        have hres : r = true := by rw [HR.out]; exact decide_eq_true (most_high hp (by omega) h0)
        subst hres
        clear h0 HR
        go_wp2_with fail
        go_ret
        exact ⟨rfl, rfl⟩
    · obtain rfl : m = q + 1 := by omega
      have g2 : ¬ (q : Int) < ((q + 1 : Nat) : Int) - 1 := by omega
      have g3 : ¬ (n : Int) ≤ (q : Int) := by omega
      have g4 : (q : Int) < (n : Int) := by omega
      obtain ⟨b1, o1, rfl, hb1, c1⟩ := h.at_ (k := q) (by omega)
      unfold dv6 at c1
      rcases Nat.lt_trichotomy (d6 X q) p with h1 | h1 | h1
      · have g5 : (d6 X q : Int) < (p : Int) := by omega
        have hres : r = false := by rw [HR.out]; exact decide_eq_false (most_lt hXm h1)
        subst hres
        clear h1 HR
        go_wp2_with fail
        go_ret
        exact ⟨rfl, rfl⟩
      · have g5 : ¬ (d6 X q : Int) < (p : Int) := by omega
        have g6 : ¬ (p : Int) < (d6 X q : Int) := by omega
        have hme := most_eq hXm h1
        have HM := Lib.hid hme
        clear hme h1
        go_wp2_with fail
        go_loop [8] (fun v => ∃ i : Nat, i ≤ q ∧ v = .int .i64 (i : Int) ∧ X % 65536 ^ i = 0)
          (fun v => q - (intOf v).toNat)
        case atStart => exact ⟨0, by omega, rfl, by simp [Nat.mod_one]⟩
        case round =>
          obtain ⟨i, hi, rfl, h0⟩ := hrel
          by_cases hlt : i < q
          · have k1 : (i : Int) < (q : Int) := by omega
            have k2 : (i : Int) < (n : Int) := by omega
            have c2 : w.cell? ⟨b1, o1 + i, none⟩ = some (.int .u64 (d6 X i : Int)) := by
              obtain ⟨b2, o2, e2, _, c2⟩ := h.at_ (k := i) (by omega)
              simp only [Option.some.injEq, Addr.mk.injEq] at e2
              obtain ⟨rfl, rfl, _⟩ := e2
              exact c2
            by_cases hd : d6 X i = 0
            · have k3 : (d6 X i : Int) = 0 := by omega
              have hs : X % 65536 ^ (i + 1) = 0 := by rw [mod_step6, h0, hd, Nat.mul_zero]
              have HS := Lib.hid hs
              clear hs h0 hd
              rw [k3] at c2
              go_wp2_with fail
              go_round
              case rel => exact ⟨i + 1, by omega, by go_num, HS.out⟩
              case measure => simp [intOf]; omega
            · have k3 : (0 : Int) < (d6 X i : Int) := by omega
              have hres : r = true := by rw [HR.out]; exact decide_eq_true (HM.out.2 (mod_up6 hlt hd))
              subst hres
              clear h0 hd HR HM
              go_wp2_with fail
              go_ret
              exact ⟨rfl, rfl⟩
          · obtain rfl : i = q := by omega
            have k1 : ¬ (i : Int) < (i : Int) := by omega
            have hres : r = false := by rw [HR.out]; exact decide_eq_false fun hh => HM.out.1 hh h0
            subst hres
            clear h0 HR HM
            go_wp2_with fail
            go_ret
            exact ⟨rfl, rfl⟩
      · have g5 : ¬ (d6 X q : Int) < (p : Int) := by omega
        have g6 : (p : Int) < (d6 X q : Int) := by omega
        have hres : r = true := by rw [HR.out]; exact decide_eq_true (most_gt hXm h1)
        subst hres
        clear h1 HR
        go_wp2_with fail
        go_ret
        exact ⟨rfl, rfl⟩
end Go.Proofs.YtbofehdihflkiaaDoor
