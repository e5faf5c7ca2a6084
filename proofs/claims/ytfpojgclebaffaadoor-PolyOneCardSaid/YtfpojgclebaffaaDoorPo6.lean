/-
  Layer 11's code: fold, step, settle. By an AI agent.
-/
import Derived.Test.YtfpojgclebaffaaDoorPo5
import Derived.Test.YtfpojgclebaffaaDoorPo2
namespace Go.Proofs.YtfpojgclebaffaaDoor
open Go Go.RowKit
set_option maxRecDepth 20000
/-- What is above 2^130 is taken as 5 times as much. -/
def foldN (a : Nat) : Nat := a % 1361129467683753853853498429727072845824 + 5 * (a / 1361129467683753853853498429727072845824)
theorem foldN_mod (a : Nat) : foldN a % P130 = a % P130 := by
  have e : a = foldN a + P130 * (a / 1361129467683753853853498429727072845824) := by unfold foldN P130; omega
  rw [e, Nat.add_mul_mod_self_left, ← e]
theorem foldN_lt {a : Nat} (h : a < 57896044618658097711785492504343953926634992332820282019728792003956564819968) : foldN a < 1701411834604692317316873037158841057280 := by unfold foldN; omega
def foldK (a k : Nat) : Nat := a % 1361129467683753853853498429727072845824 + k * (a / 1361129467683753853853498429727072845824)
theorem foldK_five (a : Nat) : foldK a 5 = foldN a := rfl
theorem foldK_next (a k : Nat) : foldK a k + a / 1361129467683753853853498429727072845824 = foldK a (k + 1) := by unfold foldK; rw [Nat.add_mul]; omega
theorem W4_lit : W4 = 115792089237316195423570985008687907853269984665640564039457584007913129639936 := by decide +kernel
theorem hi0 (a : Nat) : wd (a / 1361129467683753853853498429727072845824) 0 = wd a 2 / 4 + wd a 3 % 4 * 4611686018427387904 := by
  unfold wd dgt
  simp only [Nat.reducePow, Nat.pow_zero, Nat.div_one]
  omega
theorem hi1 {a : Nat} (h : a < W4) : wd (a / 1361129467683753853853498429727072845824) 1 = wd a 3 / 4 := by
  rw [W4_lit] at h
  unfold wd dgt
  simp only [Nat.reducePow]
  omega
theorem hi2 {a : Nat} (h : a < W4) : wd (a / 1361129467683753853853498429727072845824) 2 = 0 := by
  rw [W4_lit] at h
  unfold wd dgt
  simp only [Nat.reducePow]
  omega
theorem hi3 {a : Nat} (h : a < W4) : wd (a / 1361129467683753853853498429727072845824) 3 = 0 := by
  rw [W4_lit] at h
  unfold wd dgt
  simp only [Nat.reducePow]
  omega
theorem lo0 (a : Nat) : wd (a % 1361129467683753853853498429727072845824) 0 = wd a 0 := by
  unfold wd dgt
  simp only [Nat.pow_zero, Nat.div_one]
  omega
theorem lo1 (a : Nat) : wd (a % 1361129467683753853853498429727072845824) 1 = wd a 1 := by
  unfold wd dgt
  simp only [Nat.reducePow]
  omega
theorem lo2 (a : Nat) : wd (a % 1361129467683753853853498429727072845824) 2 = wd a 2 % 4 := by
  unfold wd dgt
  simp only [Nat.reducePow]
  omega
theorem lo3 (a : Nat) : wd (a % 1361129467683753853853498429727072845824) 3 = 0 := by
  unfold wd dgt
  simp only [Nat.reducePow]
  omega
theorem or_62 {x y : Nat} (hx : x < 18446744073709551616) : bits .or .u64 ((x : Int) / 4) (IntKind.u64.wrap ((y : Int) * 4611686018427387904)) = ((x / 4 + y % 4 * 4611686018427387904 : Nat) : Int) := by
  have e1 : (x : Int) / 4 = ((x / 4 : Nat) : Int) := by omega
  have e2 : IntKind.u64.wrap ((y : Int) * 4611686018427387904) = ((y % 4 * 4611686018427387904 : Nat) : Int) := by rw [IntKind.wrap_u64]; omega
  have e3 : (y % 4 * 4611686018427387904) ||| (x / 4) = y % 4 * 4611686018427387904 + x / 4 := by
    rw [Nat.mul_comm, show (4611686018427387904 : Nat) = 2 ^ 62 by decide]
    exact (Nat.two_pow_add_eq_or_of_lt (i := 62) (b := x / 4) (by omega) (y % 4)).symm
  rw [e1, e2, bits_or_u64_nat _ _ (by omega) (by omega), Nat.or_comm, e3, Nat.add_comm]
theorem and_3 {x : Nat} (hx : x < 18446744073709551616) : bits .and .u64 (x : Int) 3 = ((x % 4 : Nat) : Int) := by
  have h := bits_and_u64_nat x 3 hx (by decide)
  rw [show (3 : Nat) = 2 ^ 2 - 1 from rfl, Nat.and_two_pow_sub_one_eq_mod] at h
  exact h
theorem O4.in_ {w : World} {B g x : Nat} (h : O4 w B g x) (y : Nat) : ∃ wz, wz = ((((w.setCell ⟨g, 0, none⟩ (.int .u64 (wd y 0 : Int))).setCell ⟨g, 1, none⟩ (.int .u64 (wd y 1 : Int))).setCell ⟨g, 2, none⟩ (.int .u64 (wd y 2 : Int))).setCell ⟨g, 3, none⟩ (.int .u64 (wd y 3 : Int))) ∧
    O4 wz B g y ∧ Below B w wz ∧ wz.heap.size = w.heap.size ∧ ∀ B' g' x', g' ≠ g → O4 w B' g' x' → O4 wz B' g' x' := ⟨_, rfl, h.put y, h.below y, set4w_size w g y, fun _ _ _ hn ho => ho.other (Ne.symm hn) y⟩
section
attribute [local irreducible] wd
set_option maxHeartbeats 3200000 in
theorem fold_any {a : Nat} (ha : a < W4) (w : World) :
    Calls Tryd.prog 27 #[nv a] w fun e w' => e = .returned (nv (foldN a)) ∧ Below w.heap.size w w' := by
  obtain ⟨r, er⟩ : ∃ r, r = foldN a := ⟨_, rfl⟩
  rw [← er]
  have HR := Lib.hid er
  obtain ⟨lo, el⟩ : ∃ lo, lo = a % 1361129467683753853853498429727072845824 := ⟨_, rfl⟩
  obtain ⟨ab, eb⟩ : ∃ ab, ab = a / 1361129467683753853853498429727072845824 := ⟨_, rfl⟩
  have k0 : lo = foldK a 0 := by rw [el]; unfold foldK; omega
  have kn : ∀ k, foldK a k + ab = foldK a (k + 1) := fun k => by rw [eb]; exact foldK_next a k
  have HK0 := Lib.hid k0
  have HKN := Lib.hid kn
  have l0 := lo0 a
  have l1 := lo1 a
  have l2 := lo2 a
  have l3 := lo3 a
  have h0 := hi0 a
  have h1 := hi1 ha
  have h2 := hi2 ha
  have h3 := hi3 ha
  rw [← el] at l0 l1 l2 l3
  rw [← eb] at h0 h1 h2 h3
  have q0 := or_62 (y := wd a 3) (wd_lt a 2)
  rw [← h0] at q0
  have q1 := and_3 (wd_lt a 2)
  rw [← l2] at q1
  have q2 : (wd a 3 : Int) / 4 = ((wd ab 1 : Nat) : Int) := by rw [h1]; omega
  have ew : (((w.alloc (.cells #[.int .u64 (wd a 0 : Int), .int .u64 (wd a 1 : Int), .int .u64 (wd lo 2 : Int), .int .u64 0] 37)).alloc Z4).alloc (.cells #[.int .u64 (wd ab 0 : Int), .int .u64 (wd ab 1 : Int), .int .u64 0, .int .u64 0] 37)) = ((w.alloc (A4 lo)).alloc Z4).alloc (A4 ab) := by
    show _ = ((w.alloc (.cells #[.int .u64 (wd lo 0 : Int), .int .u64 (wd lo 1 : Int), .int .u64 (wd lo 2 : Int), .int .u64 (wd lo 3 : Int)] 37)).alloc Z4).alloc (.cells #[.int .u64 (wd ab 0 : Int), .int .u64 (wd ab 1 : Int), .int .u64 (wd ab 2 : Int), .int .u64 (wd ab 3 : Int)] 37)
    rw [l0, l1, l3, h2, h3]
    rfl
  have s1 : (w.alloc (A4 lo)).heap.size = w.heap.size + 1 := by simp
  have s2 : ((w.alloc (A4 lo)).alloc Z4).heap.size = w.heap.size + 2 := by simp
  have o1 : O4 (((w.alloc (A4 lo)).alloc Z4).alloc (A4 ab)) w.heap.size w.heap.size lo := ((O4.new (w := w) (Nat.le_refl _) lo).alloc Z4).alloc (A4 ab)
  have o2 : O4 (((w.alloc (A4 lo)).alloc Z4).alloc (A4 ab)) w.heap.size (w.alloc (A4 lo)).heap.size 0 := (O4.zero (own_Z4 (w := w.alloc (A4 lo)) (B := w.heap.size) (by omega))).alloc (A4 ab)
  have o3 : O4 (((w.alloc (A4 lo)).alloc Z4).alloc (A4 ab)) w.heap.size ((w.alloc (A4 lo)).alloc Z4).heap.size ab := O4.new (by omega) ab
  have hc : Below w.heap.size w (((w.alloc (A4 lo)).alloc Z4).alloc (A4 ab)) := (((Below.refl _ w).alloc (Nat.le_refl _) _).alloc (by omega) _).alloc (by omega) _
  rw [s1] at o2
  rw [s2] at o3
  have HW := Lib.hid ew
  clear er el eb k0 kn l0 l1 l2 l3 h0 h1 h2 h3 ew s1 s2 ha
  unfold nv
  go_enter Tryd.func27, Tryd.ntmps27
  go_upto_region 3 with fail
  rw [HW.out]
  obtain ⟨v3, e3⟩ : ∃ v, v = ((w.alloc (A4 lo)).alloc Z4).alloc (A4 ab) := ⟨_, rfl⟩
  obtain ⟨g1, f1⟩ : ∃ g, g = w.heap.size := ⟨_, rfl⟩
  obtain ⟨g2, f2⟩ : ∃ g, g = w.heap.size + 1 := ⟨_, rfl⟩
  obtain ⟨g3, f3⟩ : ∃ g, g = w.heap.size + 1 + 1 := ⟨_, rfl⟩
  rw [← e3] at o1 o2 o3 hc ⊢
  replace o1 : O4 v3 w.heap.size g1 lo := by rw [f1]; exact o1
  replace o2 : O4 v3 w.heap.size g2 0 := by rw [f2]; exact o2
  replace o3 : O4 v3 w.heap.size g3 ab := by rw [f3]; exact o3
  rw [← f3, ← f2, ← f1]
  have n21 := Lib.hid (show g2 ≠ g1 by omega)
  have n31 := Lib.hid (show g3 ≠ g1 by omega)
  clear e3 f1 f2 f3 HW q0 q1 q2
  rw [HK0.out] at o1
  go_wp2_with fail
  go_loopw [20] (fun i wr => ∃ k : Nat, k ≤ 5 ∧ i = .int .i64 (k : Int) ∧ O4 wr w.heap.size g1 (foldK a k) ∧ O4 wr w.heap.size g2 0 ∧ O4 wr w.heap.size g3 ab ∧ Below w.heap.size w wr)
    (fun i _ => 6 - (intOf i).toNat)
  case atStart => exact ⟨0, by omega, rfl, o1, o2, o3, hc⟩
  case round =>
    clear o1 o2 o3 hc
    obtain ⟨k, hk, rfl, o1, o2, o3, hc⟩ := hrel
    by_cases hlt : k < 5
    · have g1' : (k : Int) < 5 := by omega
      have w1 : IntKind.i64.wrap ((k : Int) + 1) = (k : Int) + 1 := by rw [IntKind.wrap_i64]; omega
      have hkn := HKN.out k
      obtain ⟨x, ex⟩ : ∃ x, x = foldK a k := ⟨_, rfl⟩
      rw [← ex] at o1 hkn
      have HX := Lib.hid hkn
      clear ex hkn
      obtain ⟨a0, a1, a2, a3⟩ := o1.c4
      obtain ⟨b0, b1, b2, b3⟩ := o3.c4
      go_wp2_with fail
      go_at_call 16
      refine (add_any x ab wr).mono ?_
      rintro e v4 ⟨rfl, h0⟩
      rw [HX.out]
      replace o1 := o1.keep h0
      replace o2 := o2.keep h0
      replace o3 := o3.keep h0
      replace hc := hc.trans (h0.mono hc.size)
      clear a0 a1 a2 a3 b0 b1 b2 b3 h0
      obtain ⟨a0, a1, a2, a3⟩ := o1.c4
      obtain ⟨f0, f1, f2, f3⟩ := o1.f4
      obtain ⟨z, ez'⟩ : ∃ z, z = foldK a (k + 1) := ⟨_, rfl⟩
      rw [← ez']
      have HZ := Lib.hid ez'
      clear ez'
      obtain ⟨wz, ez, oz, hb, _, hoth⟩ := o1.in_ z
      replace o2 := hoth _ _ _ n21.out o2
      replace o3 := hoth _ _ _ n31.out o3
      have hcz := hc.trans hb
      have HO := Lib.hid (And.intro oz (And.intro o2 (And.intro o3 hcz)))
      clear hoth oz o2 o3 hcz hb hc o1
      go_wp2_with fail
      rw [← ez]
      go_roundw
      case rel => exact ⟨k + 1, by omega, by go_num, by rw [← HZ.out]; exact HO.out.1, HO.out.2.1, HO.out.2.2.1, HO.out.2.2.2⟩
      case measure => simp [intOf]; omega
    · obtain rfl : k = 5 := by omega
      simp only [Int.cast_ofNat_Int]
      rw [foldK_five, ← HR.out] at o1
      obtain ⟨d0, d1, d2, d3⟩ := o1.c4
      have oz := o2
      obtain ⟨z0, z1, z2, z3⟩ := oz.c4
      obtain ⟨f0, f1, f2, f3⟩ := oz.f4
      obtain ⟨wz, ez, or, hb, _⟩ := oz.out r
      obtain ⟨r0, r1, r2, r3⟩ := or.c4
      go_wp2_with fail
      rw [← ez]
      refine bodyPost_ret (v := nv r) (by simp [results, Tryd.results27, go_sem, r0, r1, r2, r3]) rfl ⟨rfl, hc.trans hb⟩
end
end Go.Proofs.YtfpojgclebaffaaDoor
