import Derived.Test.YtecphnhdcphgbaaWords
namespace Go.Proofs.Ytecphnhdcphgbaa
open Go Go.RowKit
theorem by8_W4 {k : Nat} (hk : k < 33) : by8 W4 k = if k < 32 then 0 else 1 := by
  rw [W4_256]
  by_cases h : k < 32
  · rw [if_pos h]
    have := dgt_add_mul (b := 256) 0 1 h
    rw [Nat.zero_add, Nat.mul_one] at this
    exact this.trans (by simp [dgt])
  · obtain rfl : k = 32 := by omega
    decide +kernel
theorem vk_dig (bs : List UInt8) (i : Nat) : ∀ n, i < n → by8 (vk bs n) i = nth bs i
  | 0, h => absurd h (by omega)
  | n + 1, h => by
    rw [vk, Nat.mul_comm]
    by_cases h1 : i < n
    · rw [show by8 (vk bs n + 256 ^ n * nth bs n) i = by8 (vk bs n) i from dgt_add_mul _ _ h1, vk_dig bs i n h1]
    · obtain rfl : i = n := by omega
      unfold by8 dgt
      rw [Nat.add_mul_div_left _ _ (Nat.pow_pos (by decide)), Nat.div_eq_of_lt (vk_lt bs i), Nat.zero_add, Nat.mod_eq_of_lt (nth_lt bs i)]
theorem read_all {A : Option Addr} {B c : Nat} {bs : List UInt8} (w : World) (h : Rd w B A c bs) (hB : B ≤ w.heap.size) (hn : bs.length ≤ 17592186044416) :
    Calls Try.prog 35 #[.slice A bs.length c] w fun e w' => ∃ A c n, e = .returned (.slice A n c) ∧ DOwn w' w.heap.size A c n (vb bs) ∧ Below w.heap.size w w' := by
  obtain ⟨i0, hi, hz0, hz1, hz2⟩ := info_parts infoInt
  go_enter Try.func35, Try.ntmps35
  go_wp2_with fail
  go_loopw [3, 4] (fun v i wr => ∃ k : Nat, k ≤ bs.length ∧ i = .int .i64 k ∧ (∃ A c, v = .slice A k c ∧ OwnF wr w.heap.size 3 A c k (dg8 (vb bs))) ∧ Below w.heap.size w wr)
    (fun _ i _ => bs.length - (intOf i).toNat)
  case atStart => exact ⟨0, by omega, rfl, ⟨none, 0, rfl, OwnF.nothing _ _ _ _⟩, Below.refl _ _⟩
  case round =>
    obtain ⟨k, hk, rfl, ⟨Av, cv, rfl, ow⟩, hb⟩ := hrel
    by_cases hlt : k < bs.length
    · have g1 : (k : Int) < (bs.length : Int) := by omega
      have ha := h.keep (hb.mono hB)
      obtain ⟨b1, o1, rfl, hb1, c1⟩ := ha.at_ hlt
      have e1 : IntKind.i64.wrap (nth bs k : Int) = (nth bs k : Int) := by have := nth_lt bs k; rw [IntKind.wrap_i64]; omega
      have HV : Hid (Value.int .i64 (nth bs k : Int) = dg8 (vb bs) k) := Lib.hid (by unfold dg8 vb; rw [vk_dig bs k _ hlt])
      go_wp2_with (at_builtin; refine wpList_appF1 _ rfl (.tmp 11) (.tmp 17) _ rfl w.heap.size 3 i0 _ Try.underlying29 hi hz0 hz1 hz2 (by decide) rfl rfl ow HV.out rfl rfl (by omega) (by omega) hb.size ?_; intro A' c' w' ho' hb')
      refine ⟨⟨k + 1, by omega, by go_num, ⟨A', c', rfl, ho'⟩, hb.trans hb'⟩, by simp [intOf]; omega⟩
    · have hk' : k = bs.length := by omega
      subst hk'
      go_wp2_with fail
      go_at_call 40
      refine (trim_any (x := vb bs) _ ⟨ow.rd, vk_lt bs _⟩ (by omega)).mono ?_
      rintro e w1 ⟨n', hn', rfl, hx', hc, rfl⟩
      go_wp2
      go_ret
      exact ⟨Av, cv, n', rfl, DOwn.trim ow (Nat.le_refl _) hn' hx' hc, hb⟩
theorem read_any {A : Option Addr} {B c : Nat} {bs : List UInt8} (w : World) (h : Rd w B A c bs) (hB : B ≤ w.heap.size) (hn : bs.length ≤ 1000) :
    Calls Try.prog 35 #[.slice A bs.length c] w fun e w' => ∃ A c n, e = .returned (.slice A n c) ∧ DOwn w' w.heap.size A c n (vb bs) ∧ Below w.heap.size w w' := read_all w h hB (Nat.le_trans hn (by decide))
theorem told_any {A : Option Addr} {B c n x : Nat} (w : World) (h : Dig w B A c n x) (hB : B ≤ w.heap.size) :
    Calls Try.prog 22 #[.slice A n c, .int .i64 32] w fun e w' => ∃ A c, e = .returned (.slice A 32 c) ∧ Own w' w.heap.size 5 A c (gen (bf x) 32) ∧ Below w.heap.size w w' := by
  obtain ⟨i0, hi, hz0, hz1, hz2⟩ := info_parts infoByte
  go_enter Try.func22, Try.ntmps22
  go_wp2_with fail
  go_loopw [5, 6] (fun v i wr => ∃ k : Nat, k ≤ 32 ∧ i = .int .i64 k ∧ (∃ A c, v = .slice A k c ∧ Own wr w.heap.size 5 A c (gen (bf x) k)) ∧ Below w.heap.size w wr)
    (fun _ i _ => 32 - (intOf i).toNat)
  case atStart => exact ⟨0, by omega, rfl, ⟨none, 0, rfl, World.ownsRow_nil _ _ _ _⟩, Below.refl _ _⟩
  case round =>
    obtain ⟨k, hk, rfl, ⟨Av, cv, rfl, ow⟩, hb⟩ := hrel
    by_cases hlt : k < 32
    · have g1 : (k : Int) < 32 := by omega
      have ha := h.keep (hb.mono hB)
      have e1 : IntKind.u8.wrap (by8 x k : Int) = ((bf x k).toNat : Int) := by have := by8_lt x k; rw [bf_nat, IntKind.wrap_u8]; omega
      have HA := Lib.hid ha
      clear ha
      go_wp2_with (first | (go_at_call 43; refine (at_any _ HA.out k).mono ?_; rintro e w' ⟨rfl, rfl⟩) | (at_builtin; refine wpList_app1 _ rfl (.tmp 12) (.tmp 17) _ rfl w.heap.size 5 i0 _ Try.underlying22 hi hz0 hz1 hz2 rfl rfl (gen_length _ _).symm ow rfl (bf x k) rfl (by omega) hb.size ?_; intro A' c' w' ho' hb'))
      refine ⟨⟨k + 1, by omega, by go_num, ⟨A', c', rfl, by rw [gen_succ]; exact ho'⟩, hb.trans hb'⟩, by simp [intOf]; omega⟩
    · have hk' : k = 32 := by omega
      subst hk'
      go_wp2_with fail
      go_ret
      exact ⟨Av, cv, rfl, ow, hb⟩
end Go.Proofs.Ytecphnhdcphgbaa
