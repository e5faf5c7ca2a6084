import Derived.Test.YtecphnhdcphgbaaAdd
namespace Go.Proofs.Ytecphnhdcphgbaa
open Go Go.RowKit

def adl (x y : Nat) : Nat := (x + y) % 18446744073709551616
def adc (x y : Nat) : Nat := (x + y) / 18446744073709551616
def mhi (x y : Nat) : Nat := x * y / 18446744073709551616
def mlo (x y : Nat) : Nat := x * y % 18446744073709551616
theorem mul64_hl (x y : Nat) (hx : x < 18446744073709551616) (hy : y < 18446744073709551616) (w : World) :
    Calls Try.prog 55 #[.int .u64 x, .int .u64 y] w fun e w' => e = .returned (.tuple #[.int .u64 (mhi x y : Int), .int .u64 (mlo x y : Int)]) ∧ w' = w := mul64_any x y hx hy w
theorem add64_lc (x y : Nat) (w : World) : (callFunc 52 #[.int .u64 (x : Int), .int .u64 (y : Int), .int .u64 0]).run Try.prog w =
    .ok (.value (.tuple #[.int .u64 (adl x y : Int), .int .u64 (adc x y : Int)])) w := run_add64' x y 0 (by omega) w
/-- The high word and the low one of a b + c + d. -/
def mah (a b c d : Nat) : Nat := (a * b + c + d) / 18446744073709551616
def mal (a b c d : Nat) : Nat := (a * b + c + d) % 18446744073709551616
theorem mah_lt {a b c d : Nat} (ha : a < 18446744073709551616) (hb : b < 18446744073709551616) (hc : c < 18446744073709551616) (hd : d < 18446744073709551616) : mah a b c d < 18446744073709551616 := by
  have : a * b ≤ 18446744073709551615 * 18446744073709551615 := Nat.mul_le_mul (by omega) (by omega)
  unfold mah
  generalize a * b = p at *
  omega
theorem madd_any (a b c d : Nat) (ha : a < 18446744073709551616) (hb : b < 18446744073709551616) (hc : c < 18446744073709551616) (hd : d < 18446744073709551616) (w : World) :
    Calls Try.prog 53 #[.int .u64 (a : Int), .int .u64 (b : Int), .int .u64 (c : Int), .int .u64 (d : Int)] w fun e w' => e = .returned (.tuple #[.int .u64 (mah a b c d : Int), .int .u64 (mal a b c d : Int)]) ∧ w' = w := by
  have hab : a * b ≤ 18446744073709551615 * 18446744073709551615 := Nat.mul_le_mul (by omega) (by omega)
  go_enter Try.func53, Try.ntmps53
  go_wp2_with (first | (go_at_call 55; refine (mul64_hl a b ha hb _).mono ?_; rintro e w' ⟨rfl, rfl⟩) | simp only [add64_lc])
  go_ret2
  refine ⟨?_, rfl⟩
  have e1 : adl (adl (mlo a b) c) d = mal a b c d := by unfold adl mlo mal; generalize a * b = p at *; omega
  have e2 : mhi a b + adc (mlo a b) c + adc (adl (mlo a b) c) d = mah a b c d := by unfold adl adc mlo mhi mah; generalize a * b = p at *; omega
  have e3 := mah_lt ha hb hc hd
  rw [e1, ← e2]
  rw [← e2] at e3
  have e4 : IntKind.u64.wrap (IntKind.u64.wrap ((mhi a b : Int) + (adc (mlo a b) c : Int)) + (adc (adl (mlo a b) c) d : Int)) = ((mhi a b + adc (mlo a b) c + adc (adl (mlo a b) c) d : Nat) : Int) := by
    rw [IntKind.wrap_u64, IntKind.wrap_u64]; omega
  rw [e4]
  rfl

def mt (x y i : Nat) : Nat := mT 18446744073709551616 x y i
def ms (x y i k : Nat) : Nat := mS 18446744073709551616 x y i k
def mo (x y i k : Nat) : Nat := mO 18446744073709551616 x y i k
/-- Word j, when i words of x and k of y have been reckoned. -/
def mc (x y i k j : Nat) : Value := .int .u64 ((if j < i + k then wd (ms x y i k) j else wd (mt x y i) j : Nat) : Int)
theorem mc_start (x y i j : Nat) : mc x y i 0 j = wv (mt x y i) j := by
  unfold mc wv
  by_cases h : j < i + 0
  · rw [if_pos h]
    unfold ms wd; rw [mS_zero, dgt_mod (n := i) _ h]; rfl
  · rw [if_neg h]
theorem mc_at (x y i k : Nat) : mc x y i k (i + k) = .int .u64 (wd (mt x y i) (i + k) : Int) := by
  unfold mc; rw [if_neg (by omega)]
theorem mo_lt (x y i k : Nat) : mo x y i k < 18446744073709551616 := mO_lt (by decide)
theorem mo_succ (x y i k : Nat) : mo x y i (k + 1) = mah (wd x i) (wd y k) (wd (mt x y i) (i + k)) (mo x y i k) := mO_succ (by decide)
theorem mc_set (x y i k j : Nat) : (if j = i + k then .int .u64 (mal (wd x i) (wd y k) (wd (mt x y i) (i + k)) (mo x y i k) : Int) else mc x y i k j) = mc x y i (k + 1) j := by
  by_cases h : j = i + k
  · subst h
    rw [if_pos rfl]
    unfold mc
    rw [if_pos (by omega), show mal (wd x i) (wd y k) (wd (mt x y i) (i + k)) (mo x y i k) = wd (ms x y i (k + 1)) (i + k) from (mS_new (b := 18446744073709551616) (by decide)).symm]
  · rw [if_neg h]
    unfold mc
    by_cases h2 : j < i + k
    · rw [if_pos h2, if_pos (by omega), show wd (ms x y i (k + 1)) j = wd (ms x y i k) j from mS_old h2]
    · rw [if_neg h2, if_neg (by omega)]
theorem mc_end {x y i j : Nat} (hy : y < W4) : (if j = i + 4 then .int .u64 (mo x y i 4 : Int) else mc x y i 4 j) = wv (mt x y (i + 1)) j := by
  have hS : ms x y i 4 = mt x y (i + 1) := mS_full (by decide) hy
  have hl : mt x y i < 18446744073709551616 ^ (i + 4) := mT_lt (by decide) hy
  have hl' : mt x y (i + 1) < 18446744073709551616 ^ (i + 1 + 4) := mT_lt (by decide) hy
  by_cases h : j = i + 4
  · subst h
    rw [if_pos rfl]
    unfold wv wd dgt
    rw [show mo x y i 4 = ms x y i 4 / 18446744073709551616 ^ (i + 4) from rfl, hS, Nat.mod_eq_of_lt]
    refine Nat.div_lt_of_lt_mul ?_
    rw [← Nat.pow_succ]
    exact Nat.lt_of_lt_of_le hl' (Nat.le_of_eq (by congr 1))
  · rw [if_neg h]
    unfold mc wv
    by_cases h2 : j < i + 4
    · rw [if_pos h2, hS]
    · rw [if_neg h2]
      unfold wd
      rw [dgt_zero_of_lt (Nat.lt_of_lt_of_le hl (Nat.pow_le_pow_right (by decide) (by omega))), dgt_zero_of_lt (Nat.lt_of_lt_of_le hl' (Nat.pow_le_pow_right (by decide) (by omega)))]
theorem mt_zero (x y : Nat) : mt x y 0 = 0 := mT_zero _ _ _
theorem mt_four {x : Nat} (y : Nat) (hx : x < W4) : mt x y 4 = x * y := mT_full hx

abbrev Z8 : Obj := .cells #[.int .u64 0, .int .u64 0, .int .u64 0, .int .u64 0, .int .u64 0, .int .u64 0, .int .u64 0, .int .u64 0] 55
theorem own_Z8 {w : World} {B : Nat} (hB : B ≤ w.heap.size) : OwnF (w.alloc Z8) B 55 (some ⟨w.heap.size, 0, none⟩) 8 8 (fun _ => .int .u64 0) :=
  OwnF.lit _ hB _ 8 _ (by decide) rfl
theorem start8 (x y : Nat) (w : World) : RdF ((((w.alloc (A4 x)).alloc (A4 y)).alloc Z8).alloc Z8) (w.heap.size + 3) (some ⟨w.heap.size, 0, none⟩) 4 4 (wv x) ∧
    RdF ((((w.alloc (A4 x)).alloc (A4 y)).alloc Z8).alloc Z8) (w.heap.size + 3) (some ⟨w.heap.size + 1, 0, none⟩) 4 4 (wv y) ∧
    OwnF ((((w.alloc (A4 x)).alloc (A4 y)).alloc Z8).alloc Z8) w.heap.size 55 (some ⟨w.heap.size + 2, 0, none⟩) 8 8 (fun _ => .int .u64 0) ∧
    OwnF ((((w.alloc (A4 x)).alloc (A4 y)).alloc Z8).alloc Z8) w.heap.size 55 (some ⟨w.heap.size + 3, 0, none⟩) 8 8 (fun _ => .int .u64 0) ∧
    Below w.heap.size w ((((w.alloc (A4 x)).alloc (A4 y)).alloc Z8).alloc Z8) := by
  have s1 : (w.alloc (A4 x)).heap.size = w.heap.size + 1 := by simp
  have s2 : ((w.alloc (A4 x)).alloc (A4 y)).heap.size = w.heap.size + 2 := by simp
  have s3 : (((w.alloc (A4 x)).alloc (A4 y)).alloc Z8).heap.size = w.heap.size + 3 := by simp
  have b1 := (Below.refl (w.heap.size + 1) (w.alloc (A4 x))).alloc (by omega) (A4 y)
  have b2 := (Below.refl (w.heap.size + 2) ((w.alloc (A4 x)).alloc (A4 y))).alloc (by omega) Z8
  have b3 := (Below.refl (w.heap.size + 3) (((w.alloc (A4 x)).alloc (A4 y)).alloc Z8)).alloc (by omega) Z8
  have irx := (((own_A4 (w := w) (Nat.le_refl _) x).rd.mono (B' := w.heap.size + 1) (by omega)).keep ((b1.trans (b2.mono (by omega))).trans (b3.mono (by omega)))).mono (B' := w.heap.size + 3) (by omega)
  have iry := (((own_A4 (w := w.alloc (A4 x)) (B := w.heap.size) (by omega) y).rd.mono (B' := w.heap.size + 2) (by omega)).keep (b2.trans (b3.mono (by omega)))).mono (B' := w.heap.size + 3) (by omega)
  have ioz := (own_Z8 (w := (w.alloc (A4 x)).alloc (A4 y)) (B := w.heap.size) (by omega)).keepAt (by rw [s2]; exact b3)
  have ios := own_Z8 (w := ((w.alloc (A4 x)).alloc (A4 y)).alloc Z8) (B := w.heap.size) (by omega)
  have bb : Below w.heap.size w ((((w.alloc (A4 x)).alloc (A4 y)).alloc Z8).alloc Z8) := ((((Below.refl _ w).alloc (by omega) _).alloc (by omega) _).alloc (by omega) _).alloc (by omega) _
  rw [s1] at iry
  rw [s2] at ioz
  rw [s3] at ios
  exact ⟨irx, iry, ioz, ios, bb⟩
theorem set8 {w : World} {B g : Nat} {e : TypeId} {f : Nat → Value} (h : OwnF w B e (some ⟨g, 0, none⟩) 8 8 f) (v0 v1 v2 v3 v4 v5 v6 v7 : Value) :
    ∃ w', w' = ((((((((w.setCell ⟨g, 0, none⟩ v0).setCell ⟨g, 1, none⟩ v1).setCell ⟨g, 2, none⟩ v2).setCell ⟨g, 3, none⟩ v3).setCell ⟨g, 4, none⟩ v4).setCell ⟨g, 5, none⟩ v5).setCell ⟨g, 6, none⟩ v6).setCell ⟨g, 7, none⟩ v7) ∧
    w'.cell? ⟨g, 0, none⟩ = some v0 ∧ w'.cell? ⟨g, 1, none⟩ = some v1 ∧ w'.cell? ⟨g, 2, none⟩ = some v2 ∧ w'.cell? ⟨g, 3, none⟩ = some v3 ∧
    w'.cell? ⟨g, 4, none⟩ = some v4 ∧ w'.cell? ⟨g, 5, none⟩ = some v5 ∧ w'.cell? ⟨g, 6, none⟩ = some v6 ∧ w'.cell? ⟨g, 7, none⟩ = some v7 ∧ Below B w w' := by
  have h8 := (((((((h.set_ 0 v0).set_ 1 v1).set_ 2 v2).set_ 3 v3).set_ 4 v4).set_ 5 v5).set_ 6 v6).set_ 7 v7
  have hg := h.ge
  exact ⟨_, rfl, by rw [h8.cell (by decide)]; simp, by rw [h8.cell (by decide)]; simp, by rw [h8.cell (by decide)]; simp, by rw [h8.cell (by decide)]; simp,
    by rw [h8.cell (by decide)]; simp, by rw [h8.cell (by decide)]; simp, by rw [h8.cell (by decide)]; simp, by rw [h8.cell (by decide)]; simp,
    ((((((((Below.refl _ w).setCell hg _).setCell hg _).setCell hg _).setCell hg _).setCell hg _).setCell hg _).setCell hg _).setCell hg _⟩
theorem arith_ik {i k : Nat} (h : i < 4) (h' : k < 5) : IntKind.i64.wrap ((i : Int) + (k : Int)) = ((i + k : Nat) : Int) := by rw [IntKind.wrap_i64]; omega
end Go.Proofs.Ytecphnhdcphgbaa
