import Derived.Test.YtdddcgkgellbgabMA
import Derived.StillTailTactics
import Derived.RegionTactic
import Derived.Deep.RegionHeld3
import Derived.Laws.Pointers
import Derived.RowKit3
import Derived.Deep.RegionWith
import Derived.ChangeKeysEq
import Derived.Laws.StructEq
import Derived.Laws.ShiftsVar
namespace Go.Proofs.Ytdddcgkgellbgab
open Go Go.RowKit

def wv (x j : Nat) : Value := .int .u64 (wd x j : Int)
def fw (x k j : Nat) : Value := .int .u64 ((if j < k then wd x j else 0 : Nat) : Int)
theorem fw_in {x k j : Nat} (h : j < k) : fw x k j = .int .u64 (wd x j : Int) := by simp [fw, h]
theorem fw_out {x k j : Nat} (h : ¬ j < k) : fw x k j = .int .u64 0 := by simp [fw, h]
theorem fw_set (x k j : Nat) : (if j = k then .int .u64 (wd x k : Int) else fw x k j) = fw x (k + 1) j := by
  by_cases h : j = k
  · subst h; rw [if_pos rfl, fw_in (by omega)]
  · rw [if_neg h]
    by_cases h2 : j < k
    · rw [fw_in h2, fw_in (by omega)]
    · rw [fw_out h2, fw_out (by omega)]
theorem set4 {w : World} {B g : Nat} {e : TypeId} {f : Nat → Value} (h : OwnF w B e (some ⟨g, 0, none⟩) 4 4 f) (v0 v1 v2 v3 : Value) :
    ∃ w', w' = ((((w.setCell ⟨g, 0, none⟩ v0).setCell ⟨g, 1, none⟩ v1).setCell ⟨g, 2, none⟩ v2).setCell ⟨g, 3, none⟩ v3) ∧
    w'.cell? ⟨g, 0, none⟩ = some v0 ∧ w'.cell? ⟨g, 1, none⟩ = some v1 ∧ w'.cell? ⟨g, 2, none⟩ = some v2 ∧ w'.cell? ⟨g, 3, none⟩ = some v3 ∧ Below B w w' := by
  have h1 := h.set_ 0 v0
  have h2 := h1.set_ 1 v1
  have h3 := h2.set_ 2 v2
  have h4 := h3.set_ 3 v3
  have hg := h.ge
  exact ⟨_, rfl, by rw [h4.cell (by decide)]; simp, by rw [h4.cell (by decide)]; simp, by rw [h4.cell (by decide)]; simp, by rw [h4.cell (by decide)]; simp,
    ((((Below.refl _ w).setCell hg _).setCell hg _).setCell hg _).setCell hg _⟩
end Go.Proofs.Ytdddcgkgellbgab

namespace Go.Proofs.Ytdddcgkgellbgab
open Go Go.RowKit

def adl (x y : Nat) : Nat := (x + y) % 18446744073709551616
def adc (x y : Nat) : Nat := (x + y) / 18446744073709551616
def mhi (x y : Nat) : Nat := x * y / 18446744073709551616
def mlo (x y : Nat) : Nat := x * y % 18446744073709551616
/-- The high word and the low one of a b + c + d. -/
def mah (a b c d : Nat) : Nat := (a * b + c + d) / 18446744073709551616
def mal (a b c d : Nat) : Nat := (a * b + c + d) % 18446744073709551616
theorem mah_lt {a b c d : Nat} (ha : a < 18446744073709551616) (hb : b < 18446744073709551616) (hc : c < 18446744073709551616) (hd : d < 18446744073709551616) : mah a b c d < 18446744073709551616 := by
  have : a * b ≤ 18446744073709551615 * 18446744073709551615 := Nat.mul_le_mul (by omega) (by omega)
  unfold mah
  generalize a * b = p at *
  omega
def mt (x y i : Nat) : Nat := mT 18446744073709551616 x y i
def ms (x y i k : Nat) : Nat := mS 18446744073709551616 x y i k
def mo (x y i k : Nat) : Nat := mO 18446744073709551616 x y i k
/-- Word j, when i words of x and k of y have been reckoned. -/
def mc (x y i k j : Nat) : Value := .int .u64 ((if j < i + k then wd (ms x y i k) j else wd (mt x y i) j : Nat) : Int)
theorem mc_start (x y i j : Nat) : mc x y i 0 j = wv (mt x y i) j := by
  unfold mc wv
  by_cases h : j < i + 0
  · rw [if_pos h]
    unfold ms wd; rw [mS_zero, dgt_mod (n := i) _ h]; rfl
  · rw [if_neg h]
theorem mc_at (x y i k : Nat) : mc x y i k (i + k) = .int .u64 (wd (mt x y i) (i + k) : Int) := by
  unfold mc; rw [if_neg (by omega)]
theorem mo_lt (x y i k : Nat) : mo x y i k < 18446744073709551616 := mO_lt (by decide)
theorem mo_succ (x y i k : Nat) : mo x y i (k + 1) = mah (wd x i) (wd y k) (wd (mt x y i) (i + k)) (mo x y i k) := mO_succ (by decide)
theorem mc_set (x y i k j : Nat) : (if j = i + k then .int .u64 (mal (wd x i) (wd y k) (wd (mt x y i) (i + k)) (mo x y i k) : Int) else mc x y i k j) = mc x y i (k + 1) j := by
  by_cases h : j = i + k
  · subst h
    rw [if_pos rfl]
    unfold mc
    rw [if_pos (by omega), show mal (wd x i) (wd y k) (wd (mt x y i) (i + k)) (mo x y i k) = wd (ms x y i (k + 1)) (i + k) from (mS_new (b := 18446744073709551616) (by decide)).symm]
  · rw [if_neg h]
    unfold mc
    by_cases h2 : j < i + k
    · rw [if_pos h2, if_pos (by omega), show wd (ms x y i (k + 1)) j = wd (ms x y i k) j from mS_old h2]
    · rw [if_neg h2, if_neg (by omega)]
theorem mc_end {x y i j : Nat} (hy : y < W4) : (if j = i + 4 then .int .u64 (mo x y i 4 : Int) else mc x y i 4 j) = wv (mt x y (i + 1)) j := by
  have hS : ms x y i 4 = mt x y (i + 1) := mS_full (by decide) hy
  have hl : mt x y i < 18446744073709551616 ^ (i + 4) := mT_lt (by decide) hy
  have hl' : mt x y (i + 1) < 18446744073709551616 ^ (i + 1 + 4) := mT_lt (by decide) hy
  by_cases h : j = i + 4
  · subst h
    rw [if_pos rfl]
    unfold wv wd dgt
    rw [show mo x y i 4 = ms x y i 4 / 18446744073709551616 ^ (i + 4) from rfl, hS, Nat.mod_eq_of_lt]
    refine Nat.div_lt_of_lt_mul ?_
    rw [← Nat.pow_succ]
    exact Nat.lt_of_lt_of_le hl' (Nat.le_of_eq (by congr 1))
  · rw [if_neg h]
    unfold mc wv
    by_cases h2 : j < i + 4
    · rw [if_pos h2, hS]
    · rw [if_neg h2]
      unfold wd
      rw [dgt_zero_of_lt (Nat.lt_of_lt_of_le hl (Nat.pow_le_pow_right (by decide) (by omega))), dgt_zero_of_lt (Nat.lt_of_lt_of_le hl' (Nat.pow_le_pow_right (by decide) (by omega)))]
theorem mt_zero (x y : Nat) : mt x y 0 = 0 := mT_zero _ _ _
theorem mt_four {x : Nat} (y : Nat) (hx : x < W4) : mt x y 4 = x * y := mT_full hx

theorem set8 {w : World} {B g : Nat} {e : TypeId} {f : Nat → Value} (h : OwnF w B e (some ⟨g, 0, none⟩) 8 8 f) (v0 v1 v2 v3 v4 v5 v6 v7 : Value) :
    ∃ w', w' = ((((((((w.setCell ⟨g, 0, none⟩ v0).setCell ⟨g, 1, none⟩ v1).setCell ⟨g, 2, none⟩ v2).setCell ⟨g, 3, none⟩ v3).setCell ⟨g, 4, none⟩ v4).setCell ⟨g, 5, none⟩ v5).setCell ⟨g, 6, none⟩ v6).setCell ⟨g, 7, none⟩ v7) ∧
    w'.cell? ⟨g, 0, none⟩ = some v0 ∧ w'.cell? ⟨g, 1, none⟩ = some v1 ∧ w'.cell? ⟨g, 2, none⟩ = some v2 ∧ w'.cell? ⟨g, 3, none⟩ = some v3 ∧
    w'.cell? ⟨g, 4, none⟩ = some v4 ∧ w'.cell? ⟨g, 5, none⟩ = some v5 ∧ w'.cell? ⟨g, 6, none⟩ = some v6 ∧ w'.cell? ⟨g, 7, none⟩ = some v7 ∧ Below B w w' := by
  have h8 := (((((((h.set_ 0 v0).set_ 1 v1).set_ 2 v2).set_ 3 v3).set_ 4 v4).set_ 5 v5).set_ 6 v6).set_ 7 v7
  have hg := h.ge
  exact ⟨_, rfl, by rw [h8.cell (by decide)]; simp, by rw [h8.cell (by decide)]; simp, by rw [h8.cell (by decide)]; simp, by rw [h8.cell (by decide)]; simp,
    by rw [h8.cell (by decide)]; simp, by rw [h8.cell (by decide)]; simp, by rw [h8.cell (by decide)]; simp, by rw [h8.cell (by decide)]; simp,
    ((((((((Below.refl _ w).setCell hg _).setCell hg _).setCell hg _).setCell hg _).setCell hg _).setCell hg _).setCell hg _).setCell hg _⟩
theorem arith_ik {i k : Nat} (h : i < 4) (h' : k < 5) : IntKind.i64.wrap ((i : Int) + (k : Int)) = ((i + k : Nat) : Int) := by rw [IntKind.wrap_i64]; omega
end Go.Proofs.Ytdddcgkgellbgab

namespace Go.Proofs.Ytdddcgkgellbgab
open Go Go.RowKit
end Go.Proofs.Ytdddcgkgellbgab

namespace Go.Proofs.Ytdddcgkgellbgab
open Go Go.RowKit
def mask (b : Nat) : Nat := if b = 0 then 0 else 18446744073709551615
theorem mask_eq (b : Nat) (hb : b < 18446744073709551616) : IntKind.u64.wrap (-(bits .or .u64 (b : Int) (IntKind.u64.wrap (-(b : Int))) / 9223372036854775808)) = (mask b : Int) := by
  by_cases h : b = 0
  · subst h; decide
  · have e : IntKind.u64.wrap (-(b : Int)) = ((18446744073709551616 - b : Nat) : Int) := by rw [IntKind.wrap_u64]; omega
    rw [e, bits_or_u64_nat _ _ hb (by omega)]
    have h1 : b ≤ b ||| (18446744073709551616 - b) := Nat.left_le_or
    have h2 : 18446744073709551616 - b ≤ b ||| (18446744073709551616 - b) := Nat.right_le_or
    have h3 : b ||| (18446744073709551616 - b) < 2 ^ 64 := Nat.or_lt_two_pow (by omega) (by omega)
    generalize b ||| (18446744073709551616 - b) = z at *
    have hz : (z : Int) / 9223372036854775808 = 1 := by omega
    rw [hz]
    unfold mask
    rw [if_neg h]
    decide
theorem sel_eq (b a c : Nat) (ha : a < 18446744073709551616) (hc : c < 18446744073709551616) :
    bits .xor .u64 (a : Int) (bits .and .u64 (mask b : Int) (bits .xor .u64 (a : Int) (c : Int))) = ((if b = 0 then a else c : Nat) : Int) := by
  have hx : a ^^^ c < 2 ^ 64 := Nat.xor_lt_two_pow (by omega) (by omega)
  rw [bits_xor_u64_nat _ _ ha hc]
  unfold mask
  by_cases h : b = 0
  · rw [if_pos h, if_pos h, bits_and_u64_nat _ _ (by omega) (by omega), Nat.zero_and, bits_xor_u64_nat _ _ ha (by omega), Nat.xor_zero]
  · rw [if_neg h, if_neg h, bits_and_u64_nat _ _ (by omega) (by omega), Nat.and_comm, show (18446744073709551615 : Nat) = 2 ^ 64 - 1 from rfl, Nat.and_two_pow_sub_one_eq_mod, Nat.mod_eq_of_lt hx,
      bits_xor_u64_nat _ _ ha (by omega), ← Nat.xor_assoc, Nat.xor_self, Nat.zero_xor]
theorem sel_wd (b x y k : Nat) : bits .xor .u64 (wd x k : Int) (bits .and .u64 (mask b : Int) (bits .xor .u64 (wd x k : Int) (wd y k : Int))) = (wd (if b = 0 then x else y) k : Int) := by
  rw [sel_eq _ _ _ (wd_lt _ _) (wd_lt _ _)]
  split <;> rfl
end Go.Proofs.Ytdddcgkgellbgab

namespace Go.Proofs.Ytdddcgkgellbgab
open Go Go.RowKit
theorem part_u64 (xs : Array Value) (i : Nat) (v : Value) (h : xs[i]? = some v) (w : World) : (part 98 xs (i * Try.prog.cellsOf 98)).run Try.prog w = .ok v w := by
  have e : Try.prog.cellsOf 98 = 1 := by kernel_rfl
  rw [e, Nat.mul_one]
  simp [part, go_sem, h]
theorem items_u64 (xs ys : Array Value) (a b : Nat → Int) (w : World) : ∀ is : List Nat, (∀ i ∈ is, xs[i]? = some (.int .u64 (a i)) ∧ ys[i]? = some (.int .u64 (b i))) →
    (Op.eqItems 9999 98 (Try.prog.cellsOf 98) xs ys is).run Try.prog w = .ok (is.all fun i => a i == b i) w
  | [], _ => rfl
  | i :: is, h => by
    have h0 := h i (by simp)
    have ih := items_u64 xs ys a b w is (fun j hj => h j (by simp [hj]))
    simp only [Op.eqItems, Sem.run_bind, part_u64 _ _ _ h0.1, part_u64 _ _ _ h0.2, Result.andThen_ok, run_equalIn_int w 9998 98 .u64 .u64 (a i) (b i) Try.underlying98, List.all_cons]
    cases he : (a i == b i)
    · simp
    · simpa using ih
theorem eqw (x y n : Nat) (hx : x < 18446744073709551616 ^ n) (hy : y < 18446744073709551616 ^ n) : ((List.range n).all fun i => ((wd x i : Nat) : Int) == ((wd y i : Nat) : Int)) = decide (x = y) := by
  by_cases h : x = y
  · subst h; simp
  · rw [decide_eq_false h]
    cases hb : (List.range n).all fun i => ((wd x i : Nat) : Int) == ((wd y i : Nat) : Int)
    · rfl
    · refine absurd (dgt_ext hx hy fun i hi => ?_) h
      have := List.all_eq_true.1 hb i (by simpa using hi)
      have : ((wd x i : Nat) : Int) = ((wd y i : Nat) : Int) := by simpa using this
      exact Int.ofNat.inj this
end Go.Proofs.Ytdddcgkgellbgab

namespace Go.Proofs.Ytdddcgkgellbgab
open Go Go.RowKit
end Go.Proofs.Ytdddcgkgellbgab

namespace Go.Proofs.Ytdddcgkgellbgab
open Go Go.RowKit
/-- The i-th bit. -/
def bt (x i : Nat) : Nat := x / 2 ^ i % 2
theorem bt_wd (x i : Nat) : wd x (i / 64) / 2 ^ (i % 64) % 2 = bt x i := by
  have h : ∀ y s, s < 64 → (y % 18446744073709551616) / 2 ^ s % 2 = y / 2 ^ s % 2 := fun y s hs => dgt_mod (b := 2) (n := 64) y hs
  unfold wd dgt bt
  rw [h _ _ (by omega), Nat.div_div_eq_div_mul, show (18446744073709551616 : Nat) = 2 ^ 64 from rfl, ← Nat.pow_mul, ← Nat.pow_add, Nat.div_add_mod]
theorem and_one (a s : Nat) (ha : a < 18446744073709551616) : bits .and .u64 ((a : Int) / 2 ^ s) 1 = ((a / 2 ^ s % 2 : Nat) : Int) := by
  have e : (a : Int) / 2 ^ s = ((a / 2 ^ s : Nat) : Int) := by rw [Int.natCast_ediv, Int.natCast_pow]; rfl
  have hl : a / 2 ^ s < 18446744073709551616 := Nat.lt_of_le_of_lt (Nat.div_le_self _ _) ha
  rw [e]
  have := bits_and_u64_nat (a / 2 ^ s) 1 hl (by omega)
  rw [Nat.and_one_is_mod] at this
  exact this
end Go.Proofs.Ytdddcgkgellbgab

namespace Go.Proofs.Ytdddcgkgellbgab
open Go Go.RowKit
/-- What the first k bytes are worth, the lowest first. -/
def vk (bs : List UInt8) : Nat → Nat
  | 0 => 0
  | k + 1 => vk bs k + nth bs k * 256 ^ k
theorem vk_lt (bs : List UInt8) : ∀ k, vk bs k < 256 ^ k
  | 0 => by simp [vk]
  | k + 1 => by
    have h := vk_lt bs k
    have h2 : nth bs k * 256 ^ k ≤ 255 * 256 ^ k := Nat.mul_le_mul_right _ (by have := nth_lt bs k; omega)
    simp only [vk, Nat.pow_succ]
    omega
theorem pow_split (k : Nat) : 256 ^ k = 18446744073709551616 ^ (k / 8) * 256 ^ (k % 8) := by
  rw [show (18446744073709551616 : Nat) = 256 ^ 8 from rfl, ← Nat.pow_mul, ← Nat.pow_add, Nat.div_add_mod]
theorem vk_word (bs : List UInt8) (k : Nat) : wd (vk bs k) (k / 8) < 256 ^ (k % 8) := by
  have h := vk_lt bs k
  rw [pow_split] at h
  exact Nat.lt_of_le_of_lt (Nat.mod_le _ _) (Nat.div_lt_of_lt_mul h)
theorem pow_r (r : Nat) (h : r < 8) : 256 ^ r * 256 ≤ 18446744073709551616 := by
  rw [← Nat.pow_succ]
  exact Nat.pow_le_pow_right (n := 256) (by decide) (show r + 1 ≤ 8 by omega)
theorem vk_here (bs : List UInt8) (k : Nat) : wd (vk bs (k + 1)) (k / 8) = wd (vk bs k) (k / 8) + nth bs k * 256 ^ (k % 8) := by
  have h := vk_lt bs k
  have hn := nth_lt bs k
  have hr := pow_r (k % 8) (by omega)
  rw [show vk bs (k + 1) = vk bs k + 18446744073709551616 ^ (k / 8) * (nth bs k * 256 ^ (k % 8)) by rw [vk, pow_split, Nat.mul_left_comm]]
  rw [pow_split] at h
  have h1 : vk bs k / 18446744073709551616 ^ (k / 8) < 256 ^ (k % 8) := Nat.div_lt_of_lt_mul h
  have h2 : nth bs k * 256 ^ (k % 8) ≤ 255 * 256 ^ (k % 8) := Nat.mul_le_mul_right _ (by omega)
  unfold wd dgt
  rw [Nat.add_mul_div_left _ _ (Nat.pow_pos (by decide))]
  generalize vk bs k / 18446744073709551616 ^ (k / 8) = X at *
  generalize nth bs k * 256 ^ (k % 8) = Y at *
  generalize 256 ^ (k % 8) = Z at *
  rw [Nat.mod_eq_of_lt (show X + Y < 18446744073709551616 by omega), Nat.mod_eq_of_lt (show X < 18446744073709551616 by omega)]
theorem vk_there (bs : List UInt8) (k j : Nat) (h : j ≠ k / 8) : wd (vk bs (k + 1)) j = wd (vk bs k) j := by
  by_cases h1 : j < k / 8
  · rw [show vk bs (k + 1) = vk bs k + 18446744073709551616 ^ (k / 8) * (nth bs k * 256 ^ (k % 8)) by rw [vk, pow_split, Nat.mul_left_comm]]
    exact dgt_add_mul _ _ h1
  · have l : ∀ m, m ≤ k + 1 → vk bs m < 18446744073709551616 ^ j := fun m hm => by
      refine Nat.lt_of_lt_of_le (vk_lt bs m) ?_
      rw [show (18446744073709551616 : Nat) = 256 ^ 8 from rfl, ← Nat.pow_mul]
      exact Nat.pow_le_pow_right (by decide) (by omega)
    unfold wd
    rw [dgt_zero_of_lt (l _ (by omega)), dgt_zero_of_lt (l _ (by omega))]
theorem or_add (a b r : Nat) (ha : a < 256 ^ r) (hb : b < 256) (hr : r < 8) : bits .or .u64 (a : Int) (IntKind.u64.wrap ((b : Int) * 2 ^ (8 * r))) = ((a + b * 256 ^ r : Nat) : Int) := by
  have e : (2 : Nat) ^ (8 * r) = 256 ^ r := by rw [Nat.pow_mul]
  have hp := pow_r r hr
  have h2 : b * 256 ^ r ≤ 255 * 256 ^ r := Nat.mul_le_mul_right _ (by omega)
  have e2 : (b : Int) * 2 ^ (8 * r) = ((b * 256 ^ r : Nat) : Int) := by rw [← e, Int.natCast_mul, Int.natCast_pow]; rfl
  have e3 : a ||| b * 256 ^ r = a + b * 256 ^ r := by
    rw [← e, Nat.or_comm, ← Nat.shiftLeft_eq, ← Nat.shiftLeft_add_eq_or_of_lt (by rw [e]; exact ha), Nat.add_comm]
  rw [e2]
  generalize b * 256 ^ r = y at *
  generalize 256 ^ r = z at *
  have e4 : IntKind.u64.wrap ((y : Nat) : Int) = (y : Int) := by rw [IntKind.wrap_u64]; omega
  rw [e4, bits_or_u64_nat _ _ (by omega) (by omega), e3]
end Go.Proofs.Ytdddcgkgellbgab

namespace Go.Proofs.Ytdddcgkgellbgab
open Go Go.RowKit
theorem nv_zero : nv 0 = .agg #[.int .u64 0, .int .u64 0, .int .u64 0, .int .u64 0] := by simp [wd, dgt]
theorem dv_zero : dv 0 = .agg #[.int .u64 0, .int .u64 0, .int .u64 0, .int .u64 0, .int .u64 0, .int .u64 0, .int .u64 0, .int .u64 0] := by simp [wd, dgt]
/-- What the bytes are worth. -/
def vb (bs : List UInt8) : Nat := vk bs bs.length

end Go.Proofs.Ytdddcgkgellbgab

namespace Go.Proofs.Ytdddcgkgellbgab
open Go Go.RowKit
theorem infoByte : (Try.prog.info? 5).map (fun i => (i.zero, i.size, i.bytes)) = some (some (.int .u8 0), 1, 1) := by kernel_rfl
theorem info_parts {t : TypeId} {z : Option Value} {s b : Nat} (h : (Try.prog.info? t).map (fun i => (i.zero, i.size, i.bytes)) = some (z, s, b)) : ∃ i, Try.prog.info? t = some i ∧ i.zero = z ∧ i.size = s ∧ i.bytes = b := by
  cases hi : Try.prog.info? t with
  | none => rw [hi] at h; simp at h
  | some i => rw [hi] at h; simp at h; exact ⟨i, rfl, h.1, h.2.1, h.2.2⟩
theorem by_wd (x i : Nat) : wd x (i / 8) / 2 ^ (8 * (i % 8)) % 256 = by8 x i := by
  have h : ∀ y s, s < 8 → (y % 18446744073709551616) / 256 ^ s % 256 = y / 256 ^ s % 256 := fun y s hs => dgt_mod (b := 256) (n := 8) y hs
  unfold wd by8 dgt
  rw [Nat.pow_mul, show (2 : Nat) ^ 8 = 256 from rfl, h _ _ (by omega), Nat.div_div_eq_div_mul, show (18446744073709551616 : Nat) = 256 ^ 8 from rfl, ← Nat.pow_mul, ← Nat.pow_add, Nat.div_add_mod]
theorem wrap_by (x i : Nat) : IntKind.u8.wrap ((wd x (i / 8) : Int) / 2 ^ (8 * (i % 8))) = (by8 x i : Int) := by
  have e : (wd x (i / 8) : Int) / 2 ^ (8 * (i % 8)) = ((wd x (i / 8) / 2 ^ (8 * (i % 8)) : Nat) : Int) := by rw [Int.natCast_ediv, Int.natCast_pow]; rfl
  rw [e, ← by_wd, IntKind.wrap_u8]
  omega
/-- The i-th byte. -/
def bf (x i : Nat) : UInt8 := UInt8.ofNat (by8 x i)
theorem bf_nat (x i : Nat) : (bf x i).toNat = by8 x i := by
  have := by8_lt x i
  simp only [bf, UInt8.toNat_ofNat']
  omega
theorem nv_mod (x : Nat) : nv (x % W4) = nv x := by
  unfold nv wd
  rw [show W4 = 18446744073709551616 ^ 4 from rfl, dgt_mod x (by decide), dgt_mod x (by decide), dgt_mod x (by decide), dgt_mod x (by decide)]
end Go.Proofs.Ytdddcgkgellbgab
