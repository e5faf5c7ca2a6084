import Derived.Test.YtebhefgfebghkaaDoorW7
namespace Go.Proofs.YtebhefgfebghkaaDoor
open Go Go.RowKit

/-- x without its lowest k bits. -/
def shr (x k : Nat) : Nat := x / 2 ^ k
theorem shr_zero (x : Nat) : shr x 0 = x := by simp [shr]
theorem shr_succ (x k : Nat) : shr x (k + 1) = shr x k / 2 := by unfold shr; rw [Nat.pow_succ, ← Nat.div_div_eq_div_mul]
theorem shr_le (x k : Nat) : shr x k ≤ x := Nat.div_le_self _ _
/-- The lowest k bits of a byte, the lowest first. -/
def bitL (x : Nat) (k : Nat) : List UInt8 := gen (fun j => UInt8.ofNat (shr x j % 2)) k
set_option maxHeartbeats 400000 in
theorem bits_any (w : World) (x : Nat) (hx : x < 256) :
    Calls Tryd.prog 34 #[.int .u8 (x : Int)] w fun e w' => ∃ A' c', e = .returned (.slice A' 8 c') ∧ Own w' w.heap.size 5 A' c' (bitL x 8) ∧ Below w.heap.size w w' := by
  obtain ⟨i0, hi, hz0, hz1, hz2⟩ := info_parts infoByte
  go_enter Tryd.func34, Tryd.ntmps34
  go_wp2
  go_loopw [0, 3, 4] (fun a v i wr => ∃ k : Nat, k ≤ 8 ∧ i = .int .i64 k ∧ a = .int .u8 (shr x k : Int) ∧ (∃ A c, v = .slice A k c ∧ Own wr w.heap.size 5 A c (bitL x k)) ∧ Below w.heap.size w wr)
    (fun _ _ i _ => 8 - (intOf i).toNat)
  case atStart => exact ⟨0, by decide, rfl, by rw [shr_zero], ⟨none, 0, rfl, World.ownsRow_nil _ _ _ _⟩, Below.refl _ _⟩
  case round =>
    obtain ⟨k, hk, rfl, rfl, ⟨A, c, rfl, ho⟩, hb⟩ := hrel
    by_cases hlt : k < 8
    · have g1 : (k : Int) < 8 := by omega
      have g3 : shr x k < 256 := Nat.lt_of_le_of_lt (shr_le _ _) hx
      have hv : (shr x k : Int) % 2 = ((UInt8.ofNat (shr x k % 2)).toNat : Int) := by simp only [UInt8.toNat_ofNat']; omega
      have HV := Lib.hid hv
      clear hv
      go_wp2_with (at_builtin; refine wpList_app1 _ rfl (.tmp 9) (.tmp 12) _ rfl w.heap.size 5 i0 _ Tryd.underlying22 hi hz0 hz1 hz2 rfl rfl (gen_length _ _).symm ho rfl _ HV.out (by omega) hb.size ?_; intro A' c' w' ho' hb')
      go_roundw
      case rel =>
        refine ⟨k + 1, by omega, by go_num, ?_, ⟨A', c', rfl, ?_⟩, hb.trans hb'⟩
        · rw [shr_succ]; go_num
        · rw [bitL, gen_succ]; exact ho'
      case measure => simp [intOf]; omega
    · have hk' : k = 8 := by omega
      subst hk'
      go_wp2
      go_ret
      exact ⟨A, c, rfl, ho, hb⟩

/-- The sum of both bits, modulo 2, from the highest one down to the k-th. -/
def hbit (x k : Nat) : Nat := shr x (7 - k) % 2
theorem hbit_lt (x k : Nat) : hbit x k < 2 := Nat.mod_lt _ (by decide)
def mixV (x y : Nat) : Nat → Nat
  | 0 => 0
  | k + 1 => mixV x y k * 2 + (hbit x k + hbit y k) % 2
theorem nth_bit {x k : Nat} (h : k < 8) : nth (bitL x 8) k = shr x k % 2 := by
  rw [bitL, nth_gen h]; simp only [UInt8.toNat_ofNat']; omega
theorem mixV_lt (x y : Nat) : ∀ k, mixV x y k < 2 ^ k
  | 0 => by simp [mixV]
  | k + 1 => by have := mixV_lt x y k; simp only [mixV, Nat.pow_succ]; omega
theorem mixV_xor (x y : Nat) : ∀ k, k ≤ 8 → x < 256 → y < 256 → mixV x y k = shr x (8 - k) ^^^ shr y (8 - k)
  | 0, _, hx, hy => by
    have e1 : shr x 8 = 0 := Nat.div_eq_of_lt hx
    have e2 : shr y 8 = 0 := Nat.div_eq_of_lt hy
    simp [mixV, e1, e2]
  | k + 1, hk, hx, hy => by
    have e : 8 - k = (7 - k) + 1 := by omega
    have e' : 8 - (k + 1) = 7 - k := by omega
    rw [mixV, mixV_xor x y k (by omega) hx hy, e', e, shr_succ, shr_succ]
    have h1 := Nat.xor_div_two (a := shr x (7 - k)) (b := shr y (7 - k))
    have h2 := Nat.xor_mod_two_eq_one (a := shr x (7 - k)) (b := shr y (7 - k))
    unfold hbit
    omega
set_option maxHeartbeats 400000 in
theorem mixed_walk (w : World) (x y : Nat) (hx : x < 256) (hy : y < 256) :
    Calls Tryd.prog 30 #[.int .u8 (x : Int), .int .u8 (y : Int)] w fun e w' => e = .returned (.int .u8 (mixV x y 8 : Int)) ∧ Below w.heap.size w w' := by
  go_enter Tryd.func30, Tryd.ntmps30
  go_wp2_with fail
  refine (bits_any w x hx).mono ?_
  rintro e w1 ⟨A1, c1, rfl, o1, b1⟩
  go_wp2_with fail
  refine (bits_any _ y hy).mono ?_
  rintro e w2 ⟨A2, c2, rfl, o2, b2⟩
  have r1 := o1.rd.keep b2
  have r2 := o2.rd
  have b2' := b1.trans (b2.mono b1.size)
  go_wp2_with fail
  go_loopw [7, 8] (fun u i wr => ∃ k : Nat, k ≤ 8 ∧ i = .int .i64 (7 - (k : Int)) ∧ u = .int .u8 (mixV x y k : Int) ∧ ∃ n, wr = w2.drewN n)
    (fun _ i _ => (intOf i + 1).toNat)
  case atStart => exact ⟨0, by decide, rfl, rfl, 0, rfl⟩
  case round =>
    obtain ⟨k, hk, rfl, rfl, n, rfl⟩ := hrel
    by_cases hlt : k < 8
    · obtain ⟨g1, p1, rfl, _, e1⟩ := r1.at_ (k := 7 - k) (by rw [bitL, gen_length]; omega)
      obtain ⟨g2, p2, rfl, _, e2⟩ := r2.at_ (k := 7 - k) (by rw [bitL, gen_length]; omega)
      rw [nth_bit (by omega)] at e1 e2
      have f1 : w2.cell? ⟨g1, p1 + (7 - k), none⟩ = some (.int .u8 (hbit x k : Int)) := e1
      have f2 : w2.cell? ⟨g2, p2 + (7 - k), none⟩ = some (.int .u8 (hbit y k : Int)) := e2
      clear e1 e2
      have q1 := hbit_lt x k
      have q2 := hbit_lt y k
      have t1 : (0 : Int) ≤ 7 - (k : Int) := by omega
      have t2 : (7 : Int) - (k : Int) < 8 := by omega
      have i7 : (7 - (k : Int)).toNat = 7 - k := by omega
      have m3 : mixV x y k ≤ 127 := by have := mixV_lt x y k; have : 2 ^ k ≤ 2 ^ 7 := Nat.pow_le_pow_right (by decide) (by omega); omega
      go_wp2
      go_quiet (fail)
      go_wp2
      go_roundw
      case rel =>
        refine ⟨k + 1, by omega, by go_num, ?_, _, rfl⟩
        exact congrArg (Value.int .u8) (by simp only [mixV]; omega)
      case measure => simp [intOf]; omega
    · have hk' : k = 8 := by omega
      subst hk'
      go_wp2
      go_ret
      exact ⟨rfl, b2'.trans ((below_drewN _ n).mono b2'.size)⟩
theorem mixed_any (w : World) (x y : Nat) (hx : x < 256) (hy : y < 256) :
    Calls Tryd.prog 30 #[.int .u8 (x : Int), .int .u8 (y : Int)] w fun e w' => e = .returned (.int .u8 ((x ^^^ y : Nat) : Int)) ∧ Below w.heap.size w w' := by
  have e : mixV x y 8 = x ^^^ y := by rw [mixV_xor x y 8 (by decide) hx hy]; simp [shr_zero]
  rw [← e]
  exact mixed_walk w x y hx hy
end Go.Proofs.YtebhefgfebghkaaDoor
