import Derived.Test.YtebhefgfebghkaaDoorL5
namespace Go.Proofs.YtebhefgfebghkaaDoor
open Go Go.RowKit
theorem numV_drop {xs : List UInt8} {j : Nat} (h : j < xs.length) : numV (xs.drop j) = numV (xs.drop (j + 1)) * 256 + nth xs j := by
  rw [List.drop_eq_getElem_cons h, numV, nth_get h]; omega
theorem numV_drop_lt {xs : List UInt8} {j : Nat} (h : xs.length ≤ 8) (hj : 0 < j) : numV (xs.drop j) ≤ 72057594037927935 := by
  have h1 := numV_lt (xs.drop j)
  have h2 : 2 ^ (8 * (xs.drop j).length) ≤ 2 ^ 56 := Nat.pow_le_pow_right (by decide) (by rw [List.length_drop]; omega)
  have h3 : (2 : Nat) ^ 56 = 72057594037927936 := rfl
  omega
set_option maxHeartbeats 400000 in
theorem rnumber_good {A : Option Addr} {c B : Nat} {xs : List UInt8} (w : World) (h1 : Rd w B A c xs) (hl : xs.length ≤ 8) :
    Calls Tryd.prog 27 #[.slice A xs.length c] w fun e w' => e = .returned (.tuple #[.int .u64 (numV xs : Int), .int .i64 0]) ∧ w = w' := by
  have t1 : decide ((8 : Int) < (xs.length : Int)) = false := by simp; omega
  go_enter Tryd.func27, Tryd.ntmps27
  go_wp2
  clear t1
  go_loop [4, 5] (fun u i => ∃ j : Nat, j ≤ xs.length ∧ i = .int .i64 ((j : Int) - 1) ∧ u = .int .u64 (numV (xs.drop j) : Int)) (fun _ i => (intOf i + 1).toNat)
  case atStart => exact ⟨xs.length, Nat.le_refl _, rfl, by simp [numV]⟩
  case round =>
    obtain ⟨j, hj, rfl, rfl⟩ := hrel
    rcases j with _ | j
    · go_wp2
      go_ret2
      exact ⟨by simp, rfl⟩
    · obtain ⟨b1, o1, rfl, _, e1⟩ := h1.at_ (k := j) (by omega)
      have g1 : (j : Int) < (xs.length : Int) := by omega
      have g2 := nth_lt xs j
      have g3 := numV_drop_lt (j := j + 1) hl (by omega)
      have hd := numV_drop (xs := xs) (j := j) (by omega)
      have HD := Lib.hid hd
      clear hd
      have i1 : ((j + 1 : Nat) : Int) - 1 = (j : Int) := by omega
      rw [i1]
      go_wp2
      go_round
      case rel => exact ⟨j, by omega, by go_num, by rw [HD.out]; go_num⟩
      case measure => simp [intOf]
set_option maxHeartbeats 400000 in
theorem rnumber_long {A : Option Addr} {c : Nat} {n : Nat} (w : World) (hl : 8 < n) :
    Calls Tryd.prog 27 #[.slice A n c] w fun e w' => e = .returned (.tuple #[.int .u64 0, .int .i64 2]) ∧ w = w' := by
  have t1 : decide ((8 : Int) < (n : Int)) = true := by simp; omega
  go_enter Tryd.func27, Tryd.ntmps27
  go_wp2
  go_ret2
  exact ⟨rfl, rfl⟩

def shr8 (n k : Nat) : Nat := n / 2 ^ (8 * k)
theorem shr8_zero (n : Nat) : shr8 n 0 = n := by simp [shr8]
theorem shr8_succ (n k : Nat) : shr8 n (k + 1) = shr8 n k / 256 := by
  unfold shr8
  rw [Nat.mul_add, Nat.pow_add, ← Nat.div_div_eq_div_mul]
theorem shr8_le (n k : Nat) : shr8 n k ≤ n := Nat.div_le_self _ _
theorem numd_shr (n k : Nat) : (shr8 n k : Int) % 256 = ((numd n k).toNat : Int) := by
  rw [numd_toNat, shr8, Int.natCast_ediv, Int.natCast_pow]; rfl
set_option maxHeartbeats 400000 in
theorem low_any (w : World) (n size : Nat) (hn : n < 18446744073709551616) (hs : size ≤ 8) :
    Calls Tryd.prog 33 #[.int .u64 (n : Int), .int .i64 (size : Int)] w fun e w' => ∃ A' c', e = .returned (.slice A' size c') ∧ Own w' w.heap.size 5 A' c' (bytesL n size) ∧ Below w.heap.size w w' := by
  obtain ⟨i0, hi, hz0, hz1, hz2⟩ := info_parts infoByte
  go_enter Tryd.func33, Tryd.ntmps33
  go_wp2
  go_loopw [0, 5, 6] (fun a v i wr => ∃ k : Nat, k ≤ size ∧ i = .int .i64 k ∧ a = .int .u64 (shr8 n k : Int) ∧ (∃ A c, v = .slice A k c ∧ Own wr w.heap.size 5 A c (bytesL n k)) ∧ Below w.heap.size w wr)
    (fun _ _ i _ => size - (intOf i).toNat)
  case atStart => exact ⟨0, Nat.zero_le _, rfl, by rw [shr8_zero], ⟨none, 0, rfl, World.ownsRow_nil _ _ _ _⟩, Below.refl _ _⟩
  case round =>
    obtain ⟨k, hk, rfl, rfl, ⟨A, c, rfl, ho⟩, hb⟩ := hrel
    by_cases hlt : k < size
    · have g1 : (k : Int) < (size : Int) := by omega
      have g3 : shr8 n k < 18446744073709551616 := Nat.lt_of_le_of_lt (shr8_le _ _) hn
      have hv := numd_shr n k
      have HV := Lib.hid hv
      clear hv
      go_wp2_with (at_builtin; refine wpList_app1 _ rfl (.tmp 12) (.tmp 16) _ rfl w.heap.size 5 i0 _ Tryd.underlying22 hi hz0 hz1 hz2 rfl rfl (gen_length _ _).symm ho rfl _ HV.out (by omega) hb.size ?_; intro A' c' w' ho' hb')
      go_roundw
      case rel =>
        refine ⟨k + 1, by omega, by go_num, ?_, ⟨A', c', rfl, ?_⟩, hb.trans hb'⟩
        · rw [shr8_succ]; go_num
        · rw [bytesL, gen_succ]; exact ho'
      case measure => simp [intOf]; omega
    · have hk' : k = size := by omega
      subst hk'
      go_wp2
      go_ret
      exact ⟨A, c, rfl, ho, hb⟩
end Go.Proofs.YtebhefgfebghkaaDoor
