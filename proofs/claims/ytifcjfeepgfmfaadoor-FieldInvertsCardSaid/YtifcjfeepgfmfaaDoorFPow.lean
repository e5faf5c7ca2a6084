import Derived.Test.YtifcjfeepgfmfaaDoorFMul
import Derived.Test.YtifcjfeepgfmfaaDoorBit
import Derived.Test.YtifcjfeepgfmfaaDoorHeld
namespace Go.Proofs.YtifcjfeepgfmfaaDoor
open Go Go.RowKit
/-- All blocks but one are as they were. -/
def Others (B g : Nat) (w w' : World) : Prop := (∀ B' h x, h ≠ g → O4 w B' h x → O4 w' B' h x) ∧ Below B w w' ∧ w.heap.size ≤ w'.heap.size
theorem Others.refl (B g : Nat) (w : World) : Others B g w w := ⟨fun _ _ _ _ h => h, Below.refl _ _, Nat.le_refl _⟩
theorem Others.next {B g : Nat} {w w' w'' : World} (h : Others B g w w') (hB : B ≤ w.heap.size) (hb : Below w'.heap.size w' w'') : Others B g w w'' :=
  ⟨fun B' k x hk o => (h.1 B' k x hk o).keep hb, h.2.1.trans (hb.mono (Nat.le_trans hB h.2.2)), Nat.le_trans h.2.2 hb.size⟩
theorem Others.put {B g x : Nat} {w w' : World} (h : Others B g w w') (o : O4 w' B g x) (y : Nat) : Others B g w (set4w w' g y) :=
  ⟨fun B' k x hk o' => (h.1 B' k x hk o').other (Ne.symm hk) y, h.2.1.trans (o.below y), by rw [set4w_size]; exact h.2.2⟩
theorem Others.drew {B g : Nat} {w w' : World} (h : Others B g w w') : Others B g w w'.drew := ⟨fun B' k x hk o => (h.1 B' k x hk o).drew, h.2.1.drew, h.2.2⟩
/-- One step of a power: o times o, and times a where the bit is 1. -/
def stp (o a b : Nat) : Nat := if b = 0 then o * o % P25 else o * o % P25 * a % P25
attribute [local irreducible] wd by8
set_option maxRecDepth 20000
set_option maxHeartbeats 1600000 in
theorem step_walk {B go ga o a b q m r : Nat} (k1 : ∀ w, Calls Tryd.prog 26 #[nv o, nv o] w fun e w' => e = .returned (nv q) ∧ Below w.heap.size w w')
    (k2 : ∀ w, Calls Tryd.prog 26 #[nv q, nv a] w fun e w' => e = .returned (nv m) ∧ Below w.heap.size w w')
    (k3 : ∀ w, Calls Tryd.prog 55 #[.int .u64 (b : Int), nv q, nv m] w fun e w' => e = .returned (nv r) ∧ Below w.heap.size w w')
    (w : World) (ho : O4 w B go o) (ha : O4 w B ga a) (hne : go ≠ ga) :
    Calls Tryd.prog 54 #[.int .u64 (b : Int), .pointer (some ⟨go, 0, none⟩), .pointer (some ⟨ga, 0, none⟩)] w fun e w' => e = .returned (.tuple #[]) ∧ O4 w' B go r ∧ Others B go w w' := by
  have K1 := Lib.hid k1
  have K2 := Lib.hid k2
  have K3 := Lib.hid k3
  clear k1 k2 k3
  have hB : B ≤ w.heap.size := Nat.le_trans ho.ge (Nat.le_of_lt ho.lt)
  have HW := Others.refl B go w
  obtain ⟨c0, c1, c2, c3⟩ := ho.c4
  go_enter Tryd.func54, Tryd.ntmps54
  go_wp2_with fail
  clear c0 c1 c2 c3
  go_at_call 26
  refine (K1.out _).mono ?_
  rintro e v1 ⟨rfl, h0⟩
  replace HW := HW.next hB h0
  replace ho := ho.keep h0
  replace ha := ha.keep h0
  clear h0
  obtain ⟨c0, c1, c2, c3⟩ := ho.c4
  obtain ⟨f0, f1, f2, f3⟩ := ho.f4
  go_upto_region 1 with fail
  clear c0 c1 c2 c3 f0 f1 f2 f3
  replace HW := HW.put ho q
  replace ha := ha.other hne q
  replace ho := ho.put q
  obtain ⟨v2, e2⟩ : ∃ v, v = set4w v1 go q := ⟨_, rfl⟩
  have e2' := e2
  rw [← e2] at HW ha ho
  unfold set4w at e2
  rw [← e2]
  clear e2 e2'
  have HS := Lib.hid (keep44 ho ha)
  refine wp_region_seq 6 (fun wz => Below v2.heap.size v2 wz) (by kernel_rfl) (by kernel_rfl) (Below.refl _ v2).drew ?_
  simp only [List.take_succ_cons, List.take_zero, List.drop_succ_cons, List.drop_zero]
  refine Seq.run (.int .u64 (b : Int)) rfl (fun wz hz => by rfl) ?_
  refine Seq.run (nv q) rfl (fun wz hz => by
    obtain ⟨s0, s1, s2, s3, t0, t1, t2, t3⟩ := HS.out wz hz
    go_simp) ?_
  refine Seq.run (nv q) rfl (fun wz hz => by
    obtain ⟨s0, s1, s2, s3, t0, t1, t2, t3⟩ := HS.out wz hz
    go_simp) ?_
  refine Seq.run (nv a) rfl (fun wz hz => by
    obtain ⟨s0, s1, s2, s3, t0, t1, t2, t3⟩ := HS.out wz hz
    go_simp) ?_
  refine Seq.call (nv m) 26 #[nv q, nv a] rfl (fun wz hz => by go_simp) (fun wz hz => (K2.out wz).mono fun e w' ⟨he, h1⟩ => ⟨he, hz.trans (h1.mono hz.size)⟩) ?_
  refine Seq.call (nv r) 55 #[.int .u64 (b : Int), nv q, nv m] rfl (fun wz hz => by go_simp) (fun wz hz => (K3.out wz).mono fun e w' ⟨he, h1⟩ => ⟨he, hz.trans (h1.mono hz.size)⟩) ?_
  refine Seq.nil fun wz hd => ?_
  obtain ⟨q0, q1, q2, q3⟩ := (ho.keep hd).f4
  obtain ⟨s0, s1, s2, s3, t0, t1, t2, t3⟩ := HS.out wz hd
  go_wp2_with fail
  go_returns
  exact ⟨rfl, (ho.keep hd).put r, (HW.next hB hd).put (ho.keep hd) r⟩
theorem step_any {B go ga o a b : Nat} (hb : b < 18446744073709551616) (hoW : o < W4) (haW : a < W4) (w : World) (ho : O4 w B go o) (ha : O4 w B ga a) (hne : go ≠ ga) :
    Calls Tryd.prog 54 #[.int .u64 (b : Int), .pointer (some ⟨go, 0, none⟩), .pointer (some ⟨ga, 0, none⟩)] w fun e w' => e = .returned (.tuple #[]) ∧ O4 w' B go (stp o a b) ∧ Others B go w w' :=
  step_walk (fun w => fmul_any hoW hoW w) (fun w => fmul_any (red_W4 _) haW w) (fun w => pick_any b _ _ hb w) w ho ha hne
def acc (a e k : Nat) : Nat := a ^ (e / 2 ^ (256 - k)) % P25
theorem acc_zero {a e : Nat} (he : e < W4) : acc a e 0 = 1 := by
  have hW : W4 = 2 ^ (256 - 0) := by decide +kernel
  have h : e / 2 ^ (256 - 0) = 0 := Nat.div_eq_of_lt (by rw [← hW]; exact he)
  unfold acc
  rw [h, Nat.pow_zero]; decide +kernel
theorem acc_end (a e : Nat) : acc a e 256 = a ^ e % P25 := by
  unfold acc; rw [Nat.sub_self, Nat.pow_zero, Nat.div_one]
theorem acc_succ {a e k : Nat} (hk : k < 256) : stp (acc a e k) a (bt e (255 - k)) = acc a e (k + 1) := by
  have e1 : e / 2 ^ (256 - (k + 1)) = 2 * (e / 2 ^ (256 - k)) + bt e (255 - k) := by
    unfold bt
    rw [show 256 - k = (255 - k) + 1 by omega, show 256 - (k + 1) = 255 - k by omega, Nat.pow_succ, ← Nat.div_div_eq_div_mul]
    omega
  have hb : bt e (255 - k) < 2 := Nat.mod_lt _ (by decide)
  unfold acc stp
  rw [e1]
  generalize bt e (255 - k) = b at *
  generalize e / 2 ^ (256 - k) = q at *
  have h2 : a ^ q % P25 * (a ^ q % P25) % P25 = a ^ (2 * q) % P25 := by rw [← Nat.mul_mod, ← Nat.pow_add, Nat.two_mul]
  rw [h2]
  rcases (show b = 0 ∨ b = 1 by omega) with rfl | rfl
  · rw [if_pos rfl, Nat.add_zero]
  · rw [if_neg (by decide), Nat.pow_succ, Nat.mod_mul_mod]
theorem A4_one : (Obj.cells #[.int .u64 1, .int .u64 0, .int .u64 0, .int .u64 0] 24) = A4 1 := by kernel_rfl
attribute [local irreducible] bt acc stp
set_option maxHeartbeats 1600000 in
theorem fpower_any {a e : Nat} (ha : a < W4) (he : e < W4) (w : World) :
    Calls Tryd.prog 28 #[nv a, nv e] w fun r w' => r = .returned (nv (a ^ e % P25)) ∧ Below w.heap.size w w' := by
  have hmf : ∀ (fn : Fn) (first cap : Array Value) (w : World), (Instr.makeFunc fn first cap).run Tryd.prog w = .ok (.func fn first cap) w := fun _ _ _ _ => rfl
  have s1 : (w.alloc (A4 a)).heap.size = w.heap.size + 1 := by simp
  have s2 : ((w.alloc (A4 a)).alloc (A4 e)).heap.size = w.heap.size + 2 := by simp
  have s3 : (((w.alloc (A4 a)).alloc (A4 e)).alloc Z4).heap.size = w.heap.size + 3 := by simp
  have oa := (((O4.new (w := w) (Nat.le_refl _) a).alloc (A4 e)).alloc Z4).alloc (A4 1)
  have oe := ((O4.new (w := w.alloc (A4 a)) (B := w.heap.size) (by omega) e).alloc Z4).alloc (A4 1)
  have oz := (O4.zero (own_Z4 (w := (w.alloc (A4 a)).alloc (A4 e)) (B := w.heap.size) (by omega))).alloc (A4 1)
  have oo := O4.new (w := ((w.alloc (A4 a)).alloc (A4 e)).alloc Z4) (B := w.heap.size) (by omega) 1
  have hc := (((((Below.refl _ w).alloc (Nat.le_refl _) (A4 a)).alloc (by omega) (A4 e)).alloc (by omega) Z4).alloc (by omega) (A4 1))
  rw [s1] at oe
  rw [s2] at oz
  rw [s3] at oo
  rw [← A4_one] at oa oe oz oo hc
  have S1 := Lib.hid s1
  clear s1 s2 s3
  have HA := Lib.hid ha
  have HE := Lib.hid he
  clear ha he
  obtain ⟨r, hr⟩ : ∃ r, r = a ^ e % P25 := ⟨_, rfl⟩
  rw [← hr]
  have HR := Lib.hid hr
  clear hr
  unfold nv
  go_enter Tryd.func28, Tryd.ntmps28
  go_wp2_with fail
  go_loopw [10] (fun i wr => ∃ k : Nat, k ≤ 256 ∧ i = .int .i64 k ∧ O4 wr w.heap.size w.heap.size a ∧ O4 wr w.heap.size (w.heap.size + 1) e ∧ O4 wr w.heap.size (w.heap.size + 2) 0 ∧ O4 wr w.heap.size (w.heap.size + 3) (acc a e k) ∧ Below w.heap.size w wr)
    (fun i _ => 256 - (intOf i).toNat)
  case atStart => exact ⟨0, by omega, rfl, oa, oe, oz, by rw [acc_zero HE.out]; exact oo, hc⟩
  case round =>
    clear oa oe oz oo hc
    obtain ⟨k, hk, rfl, oa, oe, oz, oo, hc⟩ := hrel
    by_cases hlt : k < 256
    · have g1 : (k : Int) < 256 := by omega
      have g2 : IntKind.i64.wrap (255 - (k : Int)) = ((255 - k : Nat) : Int) := by rw [IntKind.wrap_i64]; omega
      obtain ⟨e0, e1, e2, e3⟩ := oe.c4
      go_wp2_with fail
      clear e0 e1 e2 e3
      go_at_call 56
      refine (bit_in e (255 - k) (by omega) _).mono ?_
      rintro r v1 ⟨rfl, h0⟩
      replace oa := oa.keep h0
      replace oe := oe.keep h0
      replace oz := oz.keep h0
      replace oo := oo.keep h0
      replace hc := hc.trans (h0.mono hc.size)
      clear h0
      go_wp2_with fail
      go_at_call 54
      refine (step_any (by have : bt e (255 - k) < 2 := by unfold bt; exact Nat.mod_lt _ (by decide)
                           omega) (by unfold acc; exact red_W4 _) HA.out _ oo oa (by omega)).mono ?_
      rintro r v2 ⟨rfl, o2, hO⟩
      rw [acc_succ hlt] at o2
      replace oa := hO.1 _ _ _ (by omega) oa
      replace oe := hO.1 _ _ _ (by omega) oe
      replace oz := hO.1 _ _ _ (by omega) oz
      replace hc := hc.trans hO.2.1
      clear hO oo
      go_wp2_with fail
      go_roundw
      case rel => exact ⟨k + 1, by omega, by go_num, oa, oe, oz, o2, hc⟩
      case measure => simp [intOf]; omega
    · obtain rfl : k = 256 := by omega
      rw [acc_end, ← HR.out] at oo
      obtain ⟨q0, q1, q2, q3⟩ := oo.c4
      obtain ⟨z0, z1, z2, z3⟩ := oz.c4
      obtain ⟨f0, f1, f2, f3⟩ := oz.f4
      obtain ⟨wz, ez, or, hb, _⟩ := oz.out r
      obtain ⟨r0, r1, r2, r3⟩ := or.c4
      go_wp2_with fail
      rw [← ez]
      refine bodyPost_ret (v := nv r) (by simp [results, Tryd.results28, go_sem, r0, r1, r2, r3]) rfl ⟨rfl, hc.trans hb⟩
end Go.Proofs.YtifcjfeepgfmfaaDoor
