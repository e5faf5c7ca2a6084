/-
  The document's codes and keys in bytes (layer 7). Of no program. By an AI agent.
-/
import Derived.Test.YtbofehdihflkiaaDoorN15
namespace Go.Proofs.YtbofehdihflkiaaDoor
open Go Go.RowKit
theorem sumN_len7 (S : Ks) (bs : List UInt8) : (sumN S bs).length = S.bits := gen_length _ _
/-- A key of at most 64 bytes. -/
def keyN (key : List UInt8) : List UInt8 := if key.length ≤ 64 then key else sumN smallS key
/-- .. with noughts behind it, exclusive-ored with a byte. -/
def xk (key : List UInt8) (v : UInt8) : List UInt8 := gen (fun i => (key[i]?.getD 0) ^^^ v) 64
/-- Mac. -/
def macN (key b : List UInt8) : List UInt8 := sumN smallS (xk (keyN key) 92 ++ sumN smallS (xk (keyN key) 54 ++ b))
/-- Extract. -/
def extN (salt key : List UInt8) : List UInt8 := macN (if salt.length = 0 then List.replicate 32 0 else salt) key
/-- Expand: the i-th, and all up to it. -/
def expT (key info : List UInt8) : Nat → List UInt8
  | 0 => []
  | i + 1 => macN key (expT key info i ++ info ++ [UInt8.ofNat (i + 1)])
def expO (key info : List UInt8) : Nat → List UInt8
  | 0 => []
  | i + 1 => expO key info i ++ expT key info (i + 1)
def expN (key info : List UInt8) (n : Nat) : List UInt8 := (expO key info ((n + 31) / 32)).take n
theorem macN_len (key b : List UInt8) : (macN key b).length = 32 := sumN_len7 _ _
theorem keyN_le (key : List UInt8) : (keyN key).length ≤ 64 := by
  unfold keyN
  split
  · assumption
  · rw [sumN_len7]; decide
theorem xk_len (key : List UInt8) (v : UInt8) : (xk key v).length = 64 := gen_length _ _
theorem expT_succ (key info : List UInt8) (i : Nat) : expT key info (i + 1) = macN key (expT key info i ++ info ++ [UInt8.ofNat (i + 1)]) := rfl
theorem expT_zero (key info : List UInt8) : expT key info 0 = [] := rfl
theorem expT_len (key info : List UInt8) (i : Nat) : (expT key info (i + 1)).length = 32 := macN_len _ _
theorem expT_le (key info : List UInt8) : ∀ i, (expT key info i).length ≤ 32
  | 0 => by simp [expT]
  | i + 1 => Nat.le_of_eq (expT_len key info i)
theorem expO_zero (key info : List UInt8) : expO key info 0 = [] := rfl
theorem expO_succ (key info : List UInt8) (i : Nat) : expO key info (i + 1) = expO key info i ++ expT key info (i + 1) := rfl
theorem expO_len (key info : List UInt8) : ∀ i, (expO key info i).length = 32 * i
  | 0 => rfl
  | i + 1 => by rw [expO_succ, List.length_append, expO_len key info i, expT_len]; omega
theorem expN_len (key info : List UInt8) (n : Nat) : (expN key info n).length = n := by
  unfold expN
  rw [List.length_take, expO_len]
  omega
theorem expO_take (key info : List UInt8) {i : Nat} : ∀ {j}, i ≤ j → (expO key info j).take (32 * i) = expO key info i
  | 0, h => by
    obtain rfl : i = 0 := by omega
    rfl
  | j + 1, h => by
    by_cases e : i = j + 1
    · subst e
      exact List.take_of_length_le (by rw [expO_len]; exact Nat.le_refl _)
    · have := expO_take key info (i := i) (j := j) (by omega)
      rw [expO_succ, List.take_append_of_le_length (by rw [expO_len]; omega), this]
/-- Fewer bytes are the beginning of more. -/
theorem expN_take (key info : List UInt8) {few many : Nat} (h : few ≤ many) : (expN key info many).take few = expN key info few := by
  unfold expN
  rw [List.take_take, Nat.min_eq_left h, ← expO_take key info (i := (few + 31) / 32) (j := (many + 31) / 32) (by omega), List.take_take, Nat.min_eq_left (by omega)]
theorem macN_long {key : List UInt8} (h : 64 < key.length) (b : List UInt8) : macN (sumN smallS key) b = macN key b := by
  have e1 : keyN key = sumN smallS key := by unfold keyN; rw [if_neg (by omega)]
  have e2 : keyN (sumN smallS key) = sumN smallS key := by unfold keyN; rw [if_pos (by rw [sumN_len7]; decide)]
  unfold macN
  rw [e1, e2]
theorem xk_noughts {key : List UInt8} {m : Nat} (v : UInt8) : xk (key ++ List.replicate m 0) v = xk key v := by
  unfold xk gen
  refine List.map_congr_left fun i _ => ?_
  congr 1
  by_cases h : i < key.length
  · rw [List.getElem?_append_left h]
  · rw [List.getElem?_append_right (by omega), List.getElem?_eq_none (l := key) (by omega), List.getElem?_replicate]
    split <;> rfl
theorem macN_noughts {key : List UInt8} (h : key.length ≤ 64) (b : List UInt8) : macN (key ++ List.replicate (64 - key.length) 0) b = macN key b := by
  have e1 : keyN key = key := by unfold keyN; rw [if_pos h]
  have e2 : keyN (key ++ List.replicate (64 - key.length) 0) = key ++ List.replicate (64 - key.length) 0 := by
    unfold keyN
    rw [if_pos (by rw [List.length_append, List.length_replicate]; omega)]
  unfold macN
  rw [e1, e2, xk_noughts, xk_noughts]
def keyC : List UInt8 := [107, 101, 121]
def foxC : List UInt8 := [84, 104, 101, 32, 113, 117, 105, 99, 107, 32, 98, 114, 111, 119, 110, 32, 102, 111, 120, 32, 106, 117, 109, 112, 115, 32, 111, 118, 101, 114, 32, 116, 104, 101, 32, 108, 97, 122, 121, 32, 100, 111, 103]
theorem fox_mac : (macN keyC foxC).take 4 = [0xf7, 0xbc, 0x83, 0xf4] := by decide +kernel
end Go.Proofs.YtbofehdihflkiaaDoor
