/-
  Sums piece by piece: what stands behind whole blocks, and what is padded there (layer 6). Of no program. By an AI agent.
-/
import Derived.Test.YtbofehdihflkiaaDoorN10
import Derived.Test.YtbofehdihflkiaaDoorN18
namespace Go.Proofs.YtbofehdihflkiaaDoor
open Go Go.RowKit
/-- The words behind j blocks, of any words at first. -/
def runs (S : Ks) (V : Nat → Nat) (P : List UInt8) : Nat → Nat → Nat
  | 0 => V
  | j + 1 => blN S (runs S V P j) (nth ((P.drop (j * (2 * S.bits))).take (2 * S.bits)))
def fst (S : Ks) (i : Nat) : Nat := S.first.getD i 0
theorem runs_zero (S : Ks) (V : Nat → Nat) (P : List UInt8) : runs S V P 0 = V := rfl
theorem runs_succ (S : Ks) (V : Nat → Nat) (P : List UInt8) (j : Nat) : runs S V P (j + 1) = blN S (runs S V P j) (nth ((P.drop (j * (2 * S.bits))).take (2 * S.bits))) := rfl
theorem sums_runs (S : Ks) (P : List UInt8) : ∀ j, sums S P j = runs S (fst S) P j
  | 0 => rfl
  | j + 1 => by rw [sums_succ, runs_succ, sums_runs S P j]
theorem runs_lt {S : Ks} {V : Nat → Nat} (hV : ∀ i, V i < 2 ^ S.bits) (P : List UInt8) : ∀ j i, runs S V P j i < 2 ^ S.bits
  | 0, i => hV i
  | j + 1, i => by
    rw [runs_succ]
    unfold blN
    exact Nat.mod_lt _ (Nat.pow_pos (by decide))
theorem runs_left (S : Ks) (V : Nat → Nat) (P Q : List UInt8) : ∀ j, j * (2 * S.bits) ≤ P.length → runs S V (P ++ Q) j = runs S V P j
  | 0, _ => rfl
  | j + 1, h => by
    rw [Nat.succ_mul] at h
    rw [runs_succ, runs_succ, runs_left S V P Q j (by omega), List.drop_append_of_le_length (by omega), List.take_append_of_le_length (by rw [List.length_drop]; omega)]
theorem runs_right (S : Ks) (V : Nat → Nat) (P Q : List UInt8) {k : Nat} (h : P.length = k * (2 * S.bits)) : ∀ j, runs S V (P ++ Q) (k + j) = runs S (runs S V P k) Q j
  | 0 => runs_left S V P Q k (by omega)
  | j + 1 => by
    have e : (P ++ Q).drop ((k + j) * (2 * S.bits)) = Q.drop (j * (2 * S.bits)) := by
      rw [Nat.add_mul, ← h, List.drop_append]
      simp
    rw [← Nat.add_assoc, runs_succ, runs_succ, runs_right S V P Q h j, e]
/-- On from any whole block. -/
theorem runs_on (S : Ks) (V : Nat → Nat) (P : List UInt8) {k : Nat} (h : k * (2 * S.bits) ≤ P.length) (j : Nat) : runs S V P (k + j) = runs S (runs S V P k) (P.drop (k * (2 * S.bits))) j := by
  have hl : (P.take (k * (2 * S.bits))).length = k * (2 * S.bits) := by rw [List.length_take]; omega
  have h1 := runs_right S V (P.take (k * (2 * S.bits))) (P.drop (k * (2 * S.bits))) hl j
  have h2 := runs_left S V (P.take (k * (2 * S.bits))) (P.drop (k * (2 * S.bits))) k (by omega)
  rw [List.take_append_drop] at h1 h2
  rw [h1, h2]
/-- What follows the last whole block, padded; all in all there are so many bytes. -/
def padR (S : Ks) (rest : List UInt8) (all : Nat) : List UInt8 := pz rest (zc S rest.length + (S.bits / 4 - 8)) ++ gen (lb all) 8
theorem zc_mod {S : Ks} (hb : S.bits = 32 ∨ S.bits = 64) {a b : Nat} (h : a % (2 * S.bits) = b % (2 * S.bits)) : zc S a = zc S b := by
  unfold zc
  generalize S.bits = n at *
  rcases hb with rfl | rfl <;> omega
theorem padL_cut {S : Ks} (hb : S.bits = 32 ∨ S.bits = 64) (bs : List UInt8) {k : Nat} (hk : k * (2 * S.bits) ≤ bs.length) : padL S bs = bs.take (k * (2 * S.bits)) ++ padR S (bs.drop (k * (2 * S.bits))) bs.length := by
  have h : zc S (bs.length - k * (2 * S.bits)) = zc S bs.length := zc_mod hb (by
    obtain ⟨r, hr⟩ : ∃ r, bs.length = r + (2 * S.bits) * k := ⟨bs.length - k * (2 * S.bits), by rw [Nat.mul_comm] at hk ⊢; omega⟩
    rw [hr, Nat.mul_comm k, Nat.add_sub_cancel, Nat.add_mul_mod_self_left])
  unfold padL padR pz
  rw [List.length_drop, h, ← List.append_assoc, ← List.append_assoc, List.take_append_drop]
theorem padR_length {S : Ks} (hb : S.bits = 32 ∨ S.bits = 64) (rest : List UInt8) (all : Nat) : (padR S rest all).length % (2 * S.bits) = 0 ∧ (padR S rest all).length = rest.length + 1 + zc S rest.length + S.bits / 4 := by
  have h := (zc_at hb rest.length (zc S rest.length) (Nat.le_refl _)).2 rfl
  have e : (padR S rest all).length = rest.length + 1 + zc S rest.length + S.bits / 4 := by
    unfold padR
    rw [List.length_append, pz_length, gen_length]
    rcases hb with h | h <;> rw [h] <;> omega
  exact ⟨by rw [e]; exact h, e⟩
/-- The code's sum: on from any words, of any bytes behind them. -/
def sumR (S : Ks) (V : Nat → Nat) (b : List UInt8) (all : Nat) : List UInt8 :=
  gen (outB S (runs S (runs S V b (b.length / (2 * S.bits))) (padR S (b.drop (b.length / (2 * S.bits) * (2 * S.bits))) all) ((padR S (b.drop (b.length / (2 * S.bits) * (2 * S.bits))) all).length / (2 * S.bits)))) S.bits
theorem sumN_cut {S : Ks} (hb : S.bits = 32 ∨ S.bits = 64) (bs : List UInt8) {k : Nat} (hk : k * (2 * S.bits) ≤ bs.length) :
    sumN S bs = gen (outB S (runs S (runs S (fst S) bs k) (padR S (bs.drop (k * (2 * S.bits))) bs.length) ((padR S (bs.drop (k * (2 * S.bits))) bs.length).length / (2 * S.bits)))) S.bits := by
  have hp : 0 < 2 * S.bits := by omega
  have hl : (bs.take (k * (2 * S.bits))).length = k * (2 * S.bits) := by rw [List.length_take]; omega
  have h2 := runs_left S (fst S) (bs.take (k * (2 * S.bits))) (bs.drop (k * (2 * S.bits))) k (by omega)
  rw [List.take_append_drop] at h2
  unfold sumN
  rw [sums_runs, padL_cut hb bs hk, List.length_append, hl, Nat.add_comm, Nat.add_mul_div_right _ _ hp, Nat.add_comm _ k, runs_right S _ _ _ hl, ← h2]
theorem sumR_all {S : Ks} (hb : S.bits = 32 ∨ S.bits = 64) (bs : List UInt8) : sumR S (fst S) bs bs.length = sumN S bs := by
  rw [sumN_cut hb bs (Nat.div_mul_le_self bs.length (2 * S.bits))]
  rfl
theorem sumR_rest {S : Ks} (hb : S.bits = 32 ∨ S.bits = 64) (bs : List UInt8) : sumR S (runs S (fst S) bs (bs.length / (2 * S.bits))) (bs.drop (bs.length / (2 * S.bits) * (2 * S.bits))) bs.length = sumN S bs := by
  have hp : 0 < 2 * S.bits := by omega
  have h0 : (bs.drop (bs.length / (2 * S.bits) * (2 * S.bits))).length / (2 * S.bits) = 0 := by
    rw [List.length_drop, Nat.mul_comm, ← Nat.mod_eq_sub_mul_div]
    exact Nat.div_eq_of_lt (Nat.mod_lt _ hp)
  rw [sumN_cut hb bs (Nat.div_mul_le_self bs.length (2 * S.bits))]
  unfold sumR
  rw [h0, runs_zero, Nat.zero_mul, List.drop_zero]
end Go.Proofs.YtbofehdihflkiaaDoor
