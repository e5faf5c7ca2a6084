/-
  What Xor makes of parts, and twice (layer 10). By an AI agent.
-/
import Derived.Test.YtmhfkabpfkoocaaDoorY5
namespace Go.Proofs.YtmhfkabpfkoocaaDoor
open Go Go.RowKit
set_option maxRecDepth 20000
theorem u8_xx (a : UInt8) (k : Nat) (hk : k < 256) : UInt8.ofNat ((UInt8.ofNat (a.toNat ^^^ k)).toNat ^^^ k) = a := by
  have h : a.toNat ^^^ k < 256 := Nat.xor_lt_two_pow (n := 8) (UInt8.toNat_lt a) hk
  rw [UInt8.toNat_ofNat_of_lt' (by simpa using h), Nat.xor_assoc, Nat.xor_self, Nat.xor_zero]
  exact UInt8.ofNat_toNat
theorem xrN_get {key nonce bs : List UInt8} {ctr i : Nat} (h : i < bs.length) : (xrN key nonce ctr bs)[i]? = some (xrb key nonce ctr bs i) := by
  unfold xrN gen
  simp [h]
theorem xrN_nth {key nonce bs : List UInt8} {ctr i : Nat} (h : i < bs.length) : nth (xrN key nonce ctr bs) i = (xrb key nonce ctr bs i).toNat := by
  unfold nth; rw [xrN_get h]; rfl
theorem xr_twice (key nonce bs : List UInt8) (ctr : Nat) : xrN key nonce ctr (xrN key nonce ctr bs) = bs := by
  refine List.ext_getElem? fun i => ?_
  by_cases h : i < bs.length
  · rw [xrN_get (by rw [xrN_len]; exact h), List.getElem?_eq_getElem h]
    congr 1
    unfold xrb
    rw [xrN_nth h]
    unfold xrb
    rw [nth_get h]
    exact u8_xx _ _ (ksN_lt _ _ _ _)
  · rw [List.getElem?_eq_none (by rw [xrN_len, xrN_len]; omega), List.getElem?_eq_none (by omega)]
theorem xr_take (key nonce bs : List UInt8) (ctr : Nat) {k : Nat} (hk : k ≤ bs.length) : xrN key nonce ctr (bs.take k) = (xrN key nonce ctr bs).take k := by
  have hl : (bs.take k).length = k := by rw [List.length_take]; omega
  refine List.ext_getElem? fun i => ?_
  by_cases h : i < k
  · rw [xrN_get (by rw [hl]; exact h), List.getElem?_take, if_pos h, xrN_get (by omega)]
    unfold xrb nth
    rw [List.getElem?_take, if_pos h]
  · rw [List.getElem?_eq_none (by rw [xrN_len, hl]; omega), List.getElem?_eq_none (by rw [List.length_take, xrN_len]; omega)]
theorem xr_drop (key nonce bs : List UInt8) (ctr : Nat) {k : Nat} (hk : k ≤ bs.length) (h64 : k % 64 = 0) : xrN key nonce (ctr + k / 64) (bs.drop k) = (xrN key nonce ctr bs).drop k := by
  refine List.ext_getElem? fun i => ?_
  by_cases h : k + i < bs.length
  · rw [xrN_get (by rw [List.length_drop]; omega), List.getElem?_drop, xrN_get h]
    unfold xrb nth ksN
    rw [List.getElem?_drop, show ctr + k / 64 + i / 64 = ctr + (k + i) / 64 by omega, show i % 64 = (k + i) % 64 by omega]
  · rw [List.getElem?_eq_none (by rw [xrN_len, List.length_drop]; omega), List.getElem?_eq_none (by rw [List.length_drop, xrN_len]; omega)]
end Go.Proofs.YtmhfkabpfkoocaaDoor
