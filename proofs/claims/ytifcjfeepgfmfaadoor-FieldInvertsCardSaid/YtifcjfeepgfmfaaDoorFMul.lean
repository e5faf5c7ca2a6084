import Derived.Test.YtifcjfeepgfmfaaDoorField1
import Derived.Test.YtifcjfeepgfmfaaDoorMul2
namespace Go.Proofs.YtifcjfeepgfmfaaDoor
open Go Go.RowKit
abbrev A8 (x : Nat) : Obj := .cells #[.int .u64 (wd x 0 : Int), .int .u64 (wd x 1 : Int), .int .u64 (wd x 2 : Int), .int .u64 (wd x 3 : Int), .int .u64 (wd x 4 : Int), .int .u64 (wd x 5 : Int), .int .u64 (wd x 6 : Int), .int .u64 (wd x 7 : Int)] 62
theorem own_A8 {w : World} {B : Nat} (hB : B ≤ w.heap.size) (x : Nat) : OwnF (w.alloc (A8 x)) B 62 (some ⟨w.heap.size, 0, none⟩) 8 8 (wv x) :=
  OwnF.lit _ hB _ 8 _ (by decide) rfl
def fT (p i : Nat) : Nat := p % 18446744073709551616 ^ i + 38 * (p / 18446744073709551616 ^ 4 % 18446744073709551616 ^ i)
def fo (p i : Nat) : Nat := fT p i / 18446744073709551616 ^ i
theorem fo_zero (p : Nat) : fo p 0 = 0 := by simp [fo, fT, Nat.mod_one]
theorem wd_hi4 (p i : Nat) : dgt 18446744073709551616 (p / 18446744073709551616 ^ 4) i = wd p (4 + i) := by
  unfold wd dgt; rw [Nat.div_div_eq_div_mul, ← Nat.pow_add]
theorem fT_succ (p i : Nat) : fT p (i + 1) = fT p i + 18446744073709551616 ^ i * (wd p (4 + i) * 38 + wd p i) := by
  unfold fT
  rw [mod_pow_succ', mod_pow_succ', wd_hi4, show dgt 18446744073709551616 p i = wd p i from rfl]
  generalize 18446744073709551616 ^ i = b
  rw [Nat.mul_add 38, Nat.mul_add b, show 38 * (b * wd p (4 + i)) = b * (wd p (4 + i) * 38) by rw [Nat.mul_left_comm, Nat.mul_comm 38]]
  omega
theorem fo_succ (p i : Nat) : fo p (i + 1) = mah (wd p (4 + i)) 38 (wd p i) (fo p i) := by
  unfold fo mah
  rw [fT_succ, dgt_div, Nat.add_mul_div_left _ _ (Nat.pow_pos (by decide))]
  congr 1; omega
theorem fT_digit0 (p i : Nat) : wd (fT p (i + 1)) i = mal (wd p (4 + i)) 38 (wd p i) (fo p i) := by
  show fT p (i + 1) / _ % _ = _
  rw [fT_succ, Nat.add_mul_div_left _ _ (Nat.pow_pos (by decide))]
  unfold mal fo
  congr 1; omega
theorem fT_digit (p i : Nat) : ∀ m, wd (fT p (i + 1 + m)) i = mal (wd p (4 + i)) 38 (wd p i) (fo p i)
  | 0 => fT_digit0 p i
  | m + 1 => by
    rw [show i + 1 + (m + 1) = i + 1 + m + 1 by omega, fT_succ]
    exact (dgt_add_mul (b := 18446744073709551616) _ _ (by omega)).trans (fT_digit p i m)
theorem fT_at {p i : Nat} (h : i < 4) : wd (fT p 4) i = mal (wd p (4 + i)) 38 (wd p i) (fo p i) := by
  have := fT_digit p i (3 - i)
  rwa [show i + 1 + (3 - i) = 4 by omega] at this
theorem fo_le (p i : Nat) : fo p i ≤ 38 := by
  have hp : 0 < 18446744073709551616 ^ i := Nat.pow_pos (by decide)
  have h1 := Nat.mod_lt p hp
  have h2 := Nat.mod_lt (p / 18446744073709551616 ^ 4) hp
  have : fo p i < 39 := Nat.div_lt_of_lt_mul (by unfold fT; omega)
  omega
theorem fT_end {p : Nat} (h : p < W8) : (fT p 4 % W4 + W4 * fo p 4) % P25 = p % P25 := by
  have e : fT p 4 % W4 + W4 * fo p 4 = fT p 4 := Nat.mod_add_div _ _
  have h1 : p / W4 < W4 := Nat.div_lt_of_lt_mul (by rw [← W8_eq]; exact h)
  have h2 : fT p 4 = p % W4 + 38 * (p / W4) := by
    show p % W4 + 38 * (p / W4 % W4) = _
    rw [Nat.mod_eq_of_lt h1]
  have h3 : p = p % W4 + 38 * (p / W4) + P25 * (2 * (p / W4)) := by
    have h4 := Nat.mod_add_div p W4
    have h5 : W4 = P25 * 2 + 38 := by decide +kernel
    generalize p / W4 = q at *
    have h6 : W4 * q = P25 * (2 * q) + 38 * q := by rw [h5, Nat.add_mul, Nat.mul_assoc]
    omega
  rw [e, h2]
  conv => rhs; rw [h3, Nat.add_mul_mod_self_left]
/-- Words folded. -/
theorem fold_lo (q p o : Nat) : adl (adl (mlo q 38) p) o = mal q 38 p o := by unfold adl mlo mal; omega
theorem fold_hi {q p o : Nat} (hq : q < 18446744073709551616) (hp : p < 18446744073709551616) (ho : o ≤ 38) : IntKind.u64.wrap ((mhi q 38 : Int) + (adc (mlo q 38) p : Int) + (adc (adl (mlo q 38) p) o : Int)) = (mah q 38 p o : Int) := by
  have e2 : mhi q 38 + adc (mlo q 38) p + adc (adl (mlo q 38) p) o = mah q 38 p o := by unfold adl adc mlo mhi mah; omega
  have e3 : mah q 38 p o < 18446744073709551616 := by unfold mah; omega
  rw [IntKind.wrap_u64]; omega
theorem fold_mid {q p : Nat} (hq : q < 18446744073709551616) (hp : p < 18446744073709551616) : IntKind.u64.wrap ((mhi q 38 : Int) + (adc (mlo q 38) p : Int)) = (mhi q 38 : Int) + (adc (mlo q 38) p : Int) := by
  have : mhi q 38 + adc (mlo q 38) p < 18446744073709551616 := by unfold adc mhi mlo; omega
  rw [IntKind.wrap_u64]; omega
attribute [local irreducible] wd by8
set_option maxRecDepth 20000
set_option maxHeartbeats 1600000 in
theorem fmul_walk {x y p r : Nat} (kmul : ∀ w, Calls Tryd.prog 51 #[nv x, nv y] w fun e w' => e = .returned (dv p) ∧ Below w.heap.size w w')
    (kset : ∀ w, Calls Tryd.prog 44 #[nv (fT p 4), .int .u64 (fo p 4 : Int)] w fun e w' => e = .returned (nv r) ∧ Below w.heap.size w w') (w : World) :
    Calls Tryd.prog 26 #[nv x, nv y] w fun e w' => e = .returned (nv r) ∧ Below w.heap.size w w' := by
  have KS := Lib.hid kset
  have KM := Lib.hid kmul
  clear kset kmul
  unfold nv
  go_enter Tryd.func26, Tryd.ntmps26
  go_wp2_with fail
  go_at_call 51
  refine (KM.out _).mono ?_
  rintro e v1 ⟨rfl, h0⟩
  obtain ⟨oz, hc⟩ := zres3 h0
  clear h0
  have hs1 : (v1.alloc (A8 p)).heap.size = v1.heap.size + 1 := by simp
  have hz1 := Nat.ne_of_gt oz.lt
  have hz2 : v1.heap.size + 1 ≠ w.heap.size + 2 := by have := oz.lt; omega
  have hge := hc.size
  have op := (own_A8 (w := v1) hc.size p).keep ((Below.refl _ (v1.alloc (A8 p))).alloc (Nat.le_refl _) Z4)
  have os := own_Z4 (w := v1.alloc (A8 p)) (B := w.heap.size) (by omega)
  rw [hs1] at os
  replace oz := (oz.alloc (A8 p)).alloc Z4
  replace hc := (hc.alloc hc.size (A8 p)).alloc (by omega) Z4
  have HS1 := Lib.hid hs1
  clear hs1
  go_wp2_with fail
  go_loopw [7, 15] (fun v i wr => ∃ k : Nat, k ≤ 4 ∧ i = .int .i64 k ∧ v = .int .u64 (fo p k : Int) ∧ OwnF wr w.heap.size 62 (some ⟨v1.heap.size, 0, none⟩) 8 8 (wv p) ∧
      OwnF wr w.heap.size 24 (some ⟨v1.heap.size + 1, 0, none⟩) 4 4 (fw (fT p 4) k) ∧ O4 wr w.heap.size (w.heap.size + 2) 0 ∧ Below w.heap.size w wr)
    (fun _ i _ => 4 - (intOf i).toNat)
  case atStart => exact ⟨0, by omega, rfl, by rw [fo_zero]; rfl, op, os.congr (fun j _ => by rw [fw_out (by omega)]), oz, hc⟩
  case round =>
    clear op os oz hc
    obtain ⟨k, hk, rfl, rfl, op, os, oz, hc⟩ := hrel
    by_cases hlt : k < 4
    · have g1 : (k : Int) < 4 := by omega
      have g2 : IntKind.i64.wrap (4 + (k : Int)) = ((4 + k : Nat) : Int) := by rw [IntKind.wrap_i64]; omega
      have c1 : wr.cell? ⟨v1.heap.size, 4 + k, none⟩ = some (.int .u64 (wd p (4 + k) : Int)) := OwnF.cell op (by omega)
      have c2 : wr.cell? ⟨v1.heap.size, k, none⟩ = some (.int .u64 (wd p k : Int)) := OwnF.cell op (by omega)
      have c3 := OwnF.cell os hlt
      rw [fw_out (by omega)] at c3
      have f3 := OwnF.free os k
      have hdig := fT_at (p := p) hlt
      have hsuc := fo_succ p k
      have hq := wd_lt p (4 + k)
      have hp := wd_lt p k
      have ho := fo_le p k
      have e1 := fold_lo (wd p (4 + k)) (wd p k) (fo p k)
      have e2 := fold_hi hq hp ho
      have e3 := fold_mid hq hp
      rw [← hdig] at e1
      rw [← hsuc] at e2
      have KM64 := Lib.hid (mul64_hl (wd p (4 + k)) 38 hq (by decide))
      clear hdig hsuc hq hp ho
      go_wp2_with (first | (go_at_call 52; refine (KM64.out _).mono ?_; rintro e w' ⟨rfl, rfl⟩) | simp only [add64_lc])
      go_roundw
      case rel =>
        refine ⟨k + 1, by omega, by go_num, rfl, OwnF.other op (by simp) _, (OwnF.set_ os k _).congr fun j _ => fw_set _ _ _, O4.oth1 oz hz2 _ _, hc.trans ((Below.refl w.heap.size w').setCell (by simp; omega) _)⟩
      case measure => simp [intOf]; omega
    · obtain rfl : k = 4 := by omega
      replace os : O4 wr w.heap.size (v1.heap.size + 1) (fT p 4) := os.congr fun j hj => by rw [fw_in hj]; rfl
      obtain ⟨s0, s1, s2, s3⟩ := os.c4
      go_wp2_with fail
      clear s0 s1 s2 s3
      go_at_call 44
      refine (KS.out _).mono ?_
      rintro e v3 ⟨rfl, h0⟩
      replace oz := oz.keep h0
      replace hc := hc.trans (h0.mono hc.size)
      clear h0
      obtain ⟨z0, z1, z2, z3⟩ := oz.c4
      obtain ⟨f0, f1, f2, f3⟩ := oz.f4
      obtain ⟨wz, ez, or, hb, _⟩ := oz.out r
      obtain ⟨r0, r1, r2, r3⟩ := or.c4
      go_wp2_with fail
      rw [← ez]
      refine bodyPost_ret (v := nv r) (by simp [results, Tryd.results26, go_sem, r0, r1, r2, r3]) rfl ⟨rfl, hc.trans hb⟩
theorem fmul_any {x y : Nat} (hx : x < W4) (hy : y < W4) (w : World) :
    Calls Tryd.prog 26 #[nv x, nv y] w fun e w' => e = .returned (nv (x * y % P25)) ∧ Below w.heap.size w w' := by
  have hp : x * y < W8 := by rw [W8_eq]; exact Nat.mul_lt_mul_of_lt_of_le hx (Nat.le_of_lt hy) W4_pos
  refine fmul_walk (fun w => mul_any x y hx hy w) (fun w => ?_) w
  have h := settle_any (a := fT (x * y) 4 % W4) (k := fo (x * y) 4) (Nat.mod_lt _ W4_pos) (by have := fo_le (x * y) 4; omega) w
  rw [nv_mod (fT (x * y) 4), fT_end hp] at h
  exact h
end Go.Proofs.YtifcjfeepgfmfaaDoor
