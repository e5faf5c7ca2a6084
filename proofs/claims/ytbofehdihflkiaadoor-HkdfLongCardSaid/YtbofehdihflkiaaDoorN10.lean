/-
  The document's Sum in bytes: padding, blocks, what is told (layer 6). By an AI agent.
-/
import Derived.Test.YtbofehdihflkiaaDoorN9
namespace Go.Proofs.YtbofehdihflkiaaDoor
open Go Go.RowKit
/-- The noughts behind the byte 128, up to the length's first byte of eight. -/
def zc (S : Ks) (len : Nat) : Nat := (2 * S.bits - (len + 1 + S.bits / 4) % (2 * S.bits)) % (2 * S.bits)
def pz (bs : List UInt8) (n : Nat) : List UInt8 := bs ++ (128 : UInt8) :: List.replicate n 0
theorem pz_succ (bs : List UInt8) (n : Nat) : pz bs (n + 1) = pz bs n ++ [0] := by
  unfold pz
  rw [List.replicate_succ', ← List.cons_append, List.append_assoc]
theorem pz_length (bs : List UInt8) (n : Nat) : (pz bs n).length = bs.length + 1 + n := by
  unfold pz
  rw [List.length_append, List.length_cons, List.length_replicate]
  omega
/-- The bytes of the number of bits. -/
def lb (len : Nat) (k : Nat) : UInt8 := UInt8.ofNat (len * 8 / 2 ^ (8 * (7 - k)) % 256)
def padL (S : Ks) (bs : List UInt8) : List UInt8 := pz bs (zc S bs.length + (S.bits / 4 - 8)) ++ gen (lb bs.length) 8
/-- The words behind j blocks. -/
def sums (S : Ks) (P : List UInt8) : Nat → Nat → Nat
  | 0 => fun i => S.first.getD i 0
  | j + 1 => blN S (sums S P j) (nth ((P.drop (j * (2 * S.bits))).take (2 * S.bits)))
def outB (S : Ks) (V : Nat → Nat) (m : Nat) : UInt8 := UInt8.ofNat (V (m / (S.bits / 8)) / 2 ^ (S.bits - 8 - 8 * (m % (S.bits / 8))) % 256)
/-- The document's Sum. -/
def sumN (S : Ks) (bs : List UInt8) : List UInt8 := gen (outB S (sums S (padL S bs) ((padL S bs).length / (2 * S.bits)))) S.bits
theorem zc_at {S : Ks} (hb : S.bits = 32 ∨ S.bits = 64) (len n : Nat) (hn : n ≤ zc S len) : ((len + 1 + n + S.bits / 4) % (2 * S.bits) = 0 ↔ n = zc S len) := by
  unfold zc at *
  have e : len + 1 + n + S.bits / 4 = (len + 1 + S.bits / 4) + n := by omega
  rw [e]
  generalize len + 1 + S.bits / 4 = x at *
  generalize S.bits = b at *
  rcases hb with rfl | rfl
  · constructor <;> intro h1 <;> omega
  · constructor <;> intro h1 <;> omega
theorem zc_lt {S : Ks} (hb : S.bits = 32 ∨ S.bits = 64) (len : Nat) : zc S len < 2 * S.bits := by
  unfold zc
  exact Nat.mod_lt _ (by rcases hb with h | h <;> omega)
theorem padL_length {S : Ks} (hb : S.bits = 32 ∨ S.bits = 64) (bs : List UInt8) : (padL S bs).length % (2 * S.bits) = 0 ∧ (padL S bs).length = bs.length + 1 + zc S bs.length + S.bits / 4 := by
  have h := (zc_at hb bs.length (zc S bs.length) (Nat.le_refl _)).2 rfl
  have e : (padL S bs).length = bs.length + 1 + zc S bs.length + S.bits / 4 := by
    unfold padL
    rw [List.length_append, pz_length, gen_length]
    rcases hb with h | h <;> rw [h] <;> omega
  exact ⟨by rw [e]; exact h, e⟩
theorem sums_lt {S : Ks} (hS : Kok S) (P : List UInt8) : ∀ j i, sums S P j i < 2 ^ S.bits
  | 0, i => hS.first.2 i
  | j + 1, i => by
    show blN S _ _ i < _
    unfold blN
    exact Nat.mod_lt _ (Nat.pow_pos (by decide))
theorem sums_succ (S : Ks) (P : List UInt8) (j : Nat) : sums S P (j + 1) = blN S (sums S P j) (nth ((P.drop (j * (2 * S.bits))).take (2 * S.bits))) := rfl
theorem Rd.sub {w : World} {B c b o i n : Nat} {P : List UInt8} (h : Rd w B (some ⟨b, o, none⟩) c P) (hi : i + n ≤ P.length) : Rd w B (some ⟨b, o + i, none⟩) (c - i) ((P.drop i).take n) := by
  have hl : ((P.drop i).take n).length = n := by rw [List.length_take, List.length_drop]; omega
  refine ⟨by rw [hl]; have := h.cap; omega, fun h => by simp at h, fun hne => ⟨b, o + i, rfl, ?_, fun k hk => ?_⟩⟩
  · have hn : 0 < n := by
      refine Nat.pos_of_ne_zero fun h0 => hne ?_
      rw [h0, List.take_zero]
    obtain ⟨b1, o1, e, hb, _⟩ := h.at_ (k := i) (by omega)
    simp only [Option.some.injEq, Addr.mk.injEq] at e
    rw [e.1]
    exact hb
  · rw [hl] at hk
    obtain ⟨b1, o1, e, _, c1⟩ := h.at_ (k := i + k) (by omega)
    simp only [Option.some.injEq, Addr.mk.injEq] at e
    obtain ⟨rfl, rfl, _⟩ := e
    rw [Nat.add_assoc, c1]
    unfold nth
    rw [List.getElem?_take, if_pos hk, List.getElem?_drop]
theorem lb_nat {len k : Nat} : (lb len k).toNat = len * 8 / 2 ^ (8 * (7 - k)) % 256 := by unfold lb; rw [UInt8.toNat_ofNat']; omega
theorem outB_nat (S : Ks) (V : Nat → Nat) (m : Nat) : (outB S V m).toNat = V (m / (S.bits / 8)) / 2 ^ (S.bits - 8 - 8 * (m % (S.bits / 8))) % 256 := by unfold outB; rw [UInt8.toNat_ofNat']; omega
end Go.Proofs.YtbofehdihflkiaaDoor
