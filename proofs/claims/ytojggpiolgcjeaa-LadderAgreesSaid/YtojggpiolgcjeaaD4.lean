/-
  Layer 5, LadderBits: the numbers. By an AI agent.
-/
import Derived.Test.YtojggpiolgcjeaaD3
namespace Go.Proofs.Ytojggpiolgcjeaa
open Go Go.RowKit
theorem Own.other {w : World} {B g c : Nat} {e : TypeId} {bs : List UInt8} (h : Own w B e (some ⟨g, 0, none⟩) c bs) {p : Addr} (hp : p.block ≠ g) (v : Value) : Own (w.setCell p v) B e (some ⟨g, 0, none⟩) c bs := by
  obtain ⟨hl, h2⟩ := h
  refine ⟨hl, ?_⟩
  rcases h2 with h | ⟨g1, cap, cur, hv, hB, hh, r⟩
  · exact .inl h
  · have e1 : g = g1 := by simp only [Value.slice.injEq, Option.some.injEq, Addr.mk.injEq] at hv; exact hv.1.1
    subst e1
    exact .inr ⟨g, cap, cur, hv, hB, ((Only.setCell w p v).block g (Ne.symm hp)).trans hh, r⟩
theorem clam_same {bs : List UInt8} (hl : bs.length = 32) {b0 b1 : UInt8} (h0 : b0.toNat / 8 = nth bs 0 / 8) (h1 : b1.toNat % 64 = nth bs 31 % 64) : clam (vb ((bs.set 0 b0).set 31 b1)) = clam (vb bs) := by
  have l0 := nth_lt bs 0
  have hb0 : nth ((bs.set 0 b0).set 31 b1) 0 = b0.toNat := by rw [nth_set _ _ _ _ (by simp [hl]), if_neg (by decide), nth_set _ _ _ _ (by omega), if_pos rfl]
  have hb1 : nth ((bs.set 0 b0).set 31 b1) 31 = b1.toNat := by rw [nth_set _ _ _ _ (by simp [hl]), if_pos rfl]
  have lb := b0.toNat_lt
  have q1 := clam_set (bs := bs) hl (b0 := UInt8.ofNat (nth bs 0 - nth bs 0 % 8)) (b1 := UInt8.ofNat (nth bs 31 % 64 + 64)) (by simp; omega) (by simp; omega)
  have q2 := clam_set (bs := (bs.set 0 b0).set 31 b1) (by simp [hl]) (b0 := UInt8.ofNat (nth bs 0 - nth bs 0 % 8)) (b1 := UInt8.ofNat (nth bs 31 % 64 + 64)) (by rw [hb0]; simp; omega) (by rw [hb1]; simp; omega)
  have e : (((bs.set 0 b0).set 31 b1).set 0 (UInt8.ofNat (nth bs 0 - nth bs 0 % 8))).set 31 (UInt8.ofNat (nth bs 31 % 64 + 64)) = (bs.set 0 (UInt8.ofNat (nth bs 0 - nth bs 0 % 8))).set 31 (UInt8.ofNat (nth bs 31 % 64 + 64)) := by
    rw [List.set_comm _ _ (show (31 : Nat) ≠ 0 by decide), List.set_set, List.set_set]
  rw [e, q1] at q2
  have q3 := congrArg vb q2
  rw [vb_of (clam_W4 _), vb_of (clam_W4 _)] at q3
  exact q3.symm
theorem low_same {us : List UInt8} (hl : us.length = 32) {b : UInt8} (h : b.toNat % 128 = nth us 31 % 128) : vb (us.set 31 b) % 2 ^ 255 = vb us % 2 ^ 255 := by
  have hb : nth (us.set 31 b) 31 = b.toNat := by rw [nth_set _ _ _ _ (by omega), if_pos rfl]
  have q1 := low_set (us := us) hl (b := UInt8.ofNat (nth us 31 % 128)) (by simp; omega)
  have q2 := low_set (us := us.set 31 b) (by simp [hl]) (b := UInt8.ofNat (nth us 31 % 128)) (by rw [hb]; simp; omega)
  rw [List.set_set, q1] at q2
  have q3 := congrArg vb q2
  have hW : ∀ x, x % 2 ^ 255 < W4 := fun x => Nat.lt_trans (Nat.mod_lt _ (by decide)) (by decide +kernel)
  rw [vb_of (hW _), vb_of (hW _)] at q3
  exact q3.symm
theorem ofi8 {a : Nat} (ha : a < 256) : (BitVec.ofInt 8 (a : Int)).toNat = a := by
  rw [BitVec.ofInt_natCast, BitVec.toNat_ofNat]
  exact Nat.mod_eq_of_lt ha
theorem bits_xor8 (a b : Nat) (ha : a < 256) (hb : b < 256) : bits .xor .u8 (a : Int) (b : Int) = ((a ^^^ b : Nat) : Int) := by
  have h : a ^^^ b < 2 ^ 8 := Nat.xor_lt_two_pow (by omega) (by omega)
  unfold bits
  rw [IntKind.wrap_u8]
  show (((BitVec.ofInt 8 (a : Int)) ^^^ (BitVec.ofInt 8 (b : Int))).toNat : Int) % 256 = _
  rw [BitVec.toNat_xor, ofi8 ha, ofi8 hb]
  omega
theorem bits_and8 (a b : Nat) (ha : a < 256) (hb : b < 256) : bits .and .u8 (a : Int) (b : Int) = ((a &&& b : Nat) : Int) := by
  have h : a &&& b ≤ a := Nat.and_le_left
  unfold bits
  rw [IntKind.wrap_u8]
  show (((BitVec.ofInt 8 (a : Int)) &&& (BitVec.ofInt 8 (b : Int))).toNat : Int) % 256 = _
  rw [BitVec.toNat_and, ofi8 ha, ofi8 hb]
  omega
theorem xor_low (x l : Nat) : (x ^^^ (l &&& 7)) / 8 = x / 8 := by
  have h : (l &&& 7) / 2 ^ 3 = 0 := by rw [Nat.div_eq_of_lt]; exact Nat.lt_of_le_of_lt Nat.and_le_right (by decide)
  rw [show (8 : Nat) = 2 ^ 3 from rfl, Nat.xor_div_two_pow, h, Nat.xor_zero]
theorem xor_high (x h : Nat) : (x ^^^ (h &&& 192)) % 64 = x % 64 := by
  rw [show (64 : Nat) = 2 ^ 6 from rfl, Nat.xor_mod_two_pow, Nat.and_mod_two_pow, show 192 % 2 ^ 6 = 0 from rfl, Nat.and_zero, Nat.xor_zero]
theorem xor_top (x l : Nat) : (x ^^^ (l &&& 128)) % 128 = x % 128 := by
  rw [show (128 : Nat) = 2 ^ 7 from rfl, Nat.xor_mod_two_pow, Nat.and_mod_two_pow, show 2 ^ 7 % 2 ^ 7 = 0 from rfl, Nat.and_zero, Nat.xor_zero]
theorem bits_num {ks us : List UInt8} (hk : ks.length = 32) (hu : us.length = 32) {b0 b1 b2 : UInt8} (h0 : b0.toNat / 8 = nth ks 0 / 8) (h1 : b1.toNat % 64 = nth ks 31 % 64) (h2 : b2.toNat % 128 = nth us 31 % 128) :
    multN ((ks.set 0 b0).set 31 b1) (us.set 31 b2) = multN ks us := by
  unfold multN
  rw [clam_same hk h0 h1, low_same hu h2]
end Go.Proofs.Ytojggpiolgcjeaa
