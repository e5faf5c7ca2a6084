import Derived.Test.YtecphnhdcphgbaaBit
namespace Go.Proofs.Ytecphnhdcphgbaa
open Go Go.RowKit
/-- What the first k bytes are worth, the lowest first. -/
def vk (bs : List UInt8) : Nat → Nat
  | 0 => 0
  | k + 1 => vk bs k + nth bs k * 256 ^ k
theorem vk_lt (bs : List UInt8) : ∀ k, vk bs k < 256 ^ k
  | 0 => by simp [vk]
  | k + 1 => by
    have h := vk_lt bs k
    have h2 : nth bs k * 256 ^ k ≤ 255 * 256 ^ k := Nat.mul_le_mul_right _ (by have := nth_lt bs k; omega)
    simp only [vk, Nat.pow_succ]
    omega
theorem pow_split (k : Nat) : 256 ^ k = 18446744073709551616 ^ (k / 8) * 256 ^ (k % 8) := by
  rw [show (18446744073709551616 : Nat) = 256 ^ 8 from rfl, ← Nat.pow_mul, ← Nat.pow_add, Nat.div_add_mod]
theorem vk_word (bs : List UInt8) (k : Nat) : wd (vk bs k) (k / 8) < 256 ^ (k % 8) := by
  have h := vk_lt bs k
  rw [pow_split] at h
  exact Nat.lt_of_le_of_lt (Nat.mod_le _ _) (Nat.div_lt_of_lt_mul h)
theorem pow_r (r : Nat) (h : r < 8) : 256 ^ r * 256 ≤ 18446744073709551616 := by
  rw [← Nat.pow_succ]
  exact Nat.pow_le_pow_right (n := 256) (by decide) (show r + 1 ≤ 8 by omega)
theorem vk_here (bs : List UInt8) (k : Nat) : wd (vk bs (k + 1)) (k / 8) = wd (vk bs k) (k / 8) + nth bs k * 256 ^ (k % 8) := by
  have h := vk_lt bs k
  have hn := nth_lt bs k
  have hr := pow_r (k % 8) (by omega)
  rw [show vk bs (k + 1) = vk bs k + 18446744073709551616 ^ (k / 8) * (nth bs k * 256 ^ (k % 8)) by rw [vk, pow_split, Nat.mul_left_comm]]
  rw [pow_split] at h
  have h1 : vk bs k / 18446744073709551616 ^ (k / 8) < 256 ^ (k % 8) := Nat.div_lt_of_lt_mul h
  have h2 : nth bs k * 256 ^ (k % 8) ≤ 255 * 256 ^ (k % 8) := Nat.mul_le_mul_right _ (by omega)
  unfold wd dgt
  rw [Nat.add_mul_div_left _ _ (Nat.pow_pos (by decide))]
  generalize vk bs k / 18446744073709551616 ^ (k / 8) = X at *
  generalize nth bs k * 256 ^ (k % 8) = Y at *
  generalize 256 ^ (k % 8) = Z at *
  rw [Nat.mod_eq_of_lt (show X + Y < 18446744073709551616 by omega), Nat.mod_eq_of_lt (show X < 18446744073709551616 by omega)]
theorem vk_there (bs : List UInt8) (k j : Nat) (h : j ≠ k / 8) : wd (vk bs (k + 1)) j = wd (vk bs k) j := by
  by_cases h1 : j < k / 8
  · rw [show vk bs (k + 1) = vk bs k + 18446744073709551616 ^ (k / 8) * (nth bs k * 256 ^ (k % 8)) by rw [vk, pow_split, Nat.mul_left_comm]]
    exact dgt_add_mul _ _ h1
  · have l : ∀ m, m ≤ k + 1 → vk bs m < 18446744073709551616 ^ j := fun m hm => by
      refine Nat.lt_of_lt_of_le (vk_lt bs m) ?_
      rw [show (18446744073709551616 : Nat) = 256 ^ 8 from rfl, ← Nat.pow_mul]
      exact Nat.pow_le_pow_right (by decide) (by omega)
    unfold wd
    rw [dgt_zero_of_lt (l _ (by omega)), dgt_zero_of_lt (l _ (by omega))]
theorem or_add (a b r : Nat) (ha : a < 256 ^ r) (hb : b < 256) (hr : r < 8) : bits .or .u64 (a : Int) (IntKind.u64.wrap ((b : Int) * 2 ^ (8 * r))) = ((a + b * 256 ^ r : Nat) : Int) := by
  have e : (2 : Nat) ^ (8 * r) = 256 ^ r := by rw [Nat.pow_mul]
  have hp := pow_r r hr
  have h2 : b * 256 ^ r ≤ 255 * 256 ^ r := Nat.mul_le_mul_right _ (by omega)
  have e2 : (b : Int) * 2 ^ (8 * r) = ((b * 256 ^ r : Nat) : Int) := by rw [← e, Int.natCast_mul, Int.natCast_pow]; rfl
  have e3 : a ||| b * 256 ^ r = a + b * 256 ^ r := by
    rw [← e, Nat.or_comm, ← Nat.shiftLeft_eq, ← Nat.shiftLeft_add_eq_or_of_lt (by rw [e]; exact ha), Nat.add_comm]
  rw [e2]
  generalize b * 256 ^ r = y at *
  generalize 256 ^ r = z at *
  have e4 : IntKind.u64.wrap ((y : Nat) : Int) = (y : Int) := by rw [IntKind.wrap_u64]; omega
  rw [e4, bits_or_u64_nat _ _ (by omega) (by omega), e3]
theorem fill_any (w : World) {B B' g N c : Nat} {e : TypeId} {A : Option Addr} {bs : List UInt8} (hw : OwnF w B e (some ⟨g, 0, none⟩) N N (fun _ => .int .u64 0)) (hr : Rd w B' A c bs) (hB : B' ≤ g) (hl : bs.length ≤ 8 * N) (hN : N ≤ 1000) :
    Calls Try.prog 49 #[.slice (some ⟨g, 0, none⟩) N N, .slice A bs.length c] w fun e' w' => e' = .returned (.tuple #[]) ∧ OwnF w' B e (some ⟨g, 0, none⟩) N N (wv (vk bs bs.length)) ∧ Below g w w' := by
  go_enter Try.func49, Try.ntmps49
  go_wp2
  go_loopw [7] (fun i wr => ∃ k : Nat, k ≤ bs.length ∧ i = .int .i64 k ∧ OwnF wr B e (some ⟨g, 0, none⟩) N N (wv (vk bs k)) ∧ Below g w wr)
    (fun i _ => bs.length - (intOf i).toNat)
  case atStart => exact ⟨0, by omega, rfl, hw.congr (fun j _ => by rw [show vk bs 0 = 0 from rfl]; unfold wv wd dgt; simp), Below.refl _ _⟩
  case round =>
    obtain ⟨k, hk, rfl, os, hb⟩ := hrel
    by_cases hlt : k < bs.length
    · have g1 : (k : Int) < (bs.length : Int) := by omega
      obtain ⟨b1, o1, rfl, hb1, cc1⟩ := hr.at_ hlt
      have c1 : wr.cell? ⟨b1, o1 + k, none⟩ = some (.int .u8 (nth bs k : Int)) := (hb.cell (p := ⟨b1, o1 + k, none⟩) (Nat.lt_of_lt_of_le hb1 hB)).trans cc1
      have c2 := os.cell (k := k / 8) (by omega)
      unfold wv at c2
      have f2 := os.free (k / 8)
      have g2 : IntKind.i64.wrap ((k : Int) / 8) = (k : Int) / 8 := by rw [IntKind.wrap_i64]; omega
      have g3 : (k : Int).tmod 8 = (k : Int) % 8 := Int.tmod_eq_emod_of_nonneg (by omega)
      have ga : IntKind.u64.wrap (nth bs k : Int) = (nth bs k : Int) := by have := nth_lt bs k; rw [IntKind.wrap_u64]; omega
      have g4 : (k : Int) / 8 < (N : Int) := by omega
      have g5 : IntKind.i64.wrap (8 * ((k : Int) % 8)) = 8 * ((k : Int) % 8) := by rw [IntKind.wrap_i64]; omega
      have g6 : 0 ≤ (k : Int) / 8 := by omega
      have g7 : ((k : Int) / 8).toNat = k / 8 := by omega
      have g8 : 0 ≤ 8 * ((k : Int) % 8) := by omega
      have g9 : (8 * ((k : Int) % 8)).toNat = 8 * (k % 8) := by omega
      have gb : bits .or .u64 (wd (vk bs k) (k / 8) : Int) (IntKind.u64.wrap ((nth bs k : Int) * 2 ^ (8 * (k % 8)))) = (wd (vk bs (k + 1)) (k / 8) : Int) := by
        rw [or_add _ _ _ (vk_word bs k) (nth_lt _ _) (by omega), vk_here]
      clear cc1
      go_wp2
      refine wp_region_still_tail 16 (by kernel_rfl) (by kernel_rfl) ?_
      simp only [List.take_succ_cons, List.take_zero, List.drop_succ_cons, List.drop_zero]
      repeat still_step
      refine wpStill_nil ?_
      change wpList _ _ _ _ _ wr.drew
      go_wp2
      have os' := os.set_ (k / 8) (.int .u64 (wd (vk bs (k + 1)) (k / 8) : Int))
      have hset : Below g wr (wr.setCell ⟨g, k / 8, none⟩ (.int .u64 (wd (vk bs (k + 1)) (k / 8) : Int))) := (Below.refl g wr).setCell (Nat.le_refl g) _
      refine ⟨⟨k + 1, by omega, by go_num, ?_, (hb.trans hset).drew⟩, by simp [intOf]; omega⟩
      refine (os'.congr fun j _ => ?_).drew
      unfold wv
      by_cases h : j = k / 8
      · rw [if_pos h, h]
      · rw [if_neg h, vk_there _ _ _ h]
    · have hk' : k = bs.length := by omega
      subst hk'
      go_wp2
      go_returns
      exact ⟨rfl, os, hb⟩
end Go.Proofs.Ytecphnhdcphgbaa
