/-
  The curve of this program: d is no square; the base point; L times it is nought. Of no program. By an AI agent. (and more)
-/
import Derived.Test.YtkbkalhcdbklkaaGreatDoorEdw2
namespace Go.Proofs.YtkbkalhcdbklkaaGreatDoor
section
def ed : Nat := 37095705934669439343138083508754565189542113879843219016388785533085940283555
def ei : Nat := 19681161376707505956807079304988542015446066515923890162744021073123829784752
theorem ei_sq : ei * ei % P25 = P25 - 1 := by decide +kernel
theorem ed_no : pm P25 256 ed ((P25 - 1) / 2) = P25 - 1 := by decide +kernel
theorem half2 : 2 * ((P25 - 1) / 2) = P25 - 1 := by decide +kernel
theorem neg_one : toF (P25 - 1) = -1 := by decide +kernel
theorem half_small : (P25 - 1) / 2 < 2 ^ 256 := by decide +kernel
theorem half_ne : (P25 - 1) / 2 ≠ 0 := by decide +kernel
theorem pow_zero' {z : Fp} (hz : z = 0) : ∀ k : Nat, k ≠ 0 → z ^ k = 0
 | 0, h => absurd rfl h
 | k + 1, _ => by
  have : z ^ (k + 1) = z ^ k * z := by grind
  rw [this, hz]
  grind
theorem no_sq (dd : Nat) (h : pm P25 256 dd ((P25 - 1) / 2) = P25 - 1) (s : Fp) : s * s ≠ toF dd := by
 intro hs
 rw [pm_eq P25 256 dd _ half_small] at h
 have h1 : toF (dd ^ ((P25 - 1) / 2)) = -1 := by rw [← toF_mod, h, neg_one]
 have h2 : toF (dd ^ ((P25 - 1) / 2)) = toF (s.val ^ (P25 - 1)) := by
  rw [toF_pow, ← hs, ← toF_self s, ← toF_mul, ← toF_pow, toF_self, show s.val * s.val = s.val ^ 2 by rw [Nat.pow_succ, Nat.pow_one], ← Nat.pow_mul, half2]
 by_cases h0 : s = 0
 ·have hz : toF dd = 0 := by rw [← hs, h0]; grind
  have h3 : toF (dd ^ ((P25 - 1) / 2)) = 0 := by rw [toF_pow]; exact pow_zero' hz _ half_ne
  rw [h1] at h3
  revert h3
  decide +kernel
 ·have h0' : s.val % P25 ≠ 0 := fun h => h0 (Fin.ext ((Nat.mod_eq_of_lt s.isLt).symm.trans h))
  have h4 := prP.fermat fun hd => h0' (Nat.mod_eq_zero_of_dvd hd)
  have h5 : toF (s.val ^ (P25 - 1)) = 1 := by rw [← toF_mod, h4]; rfl
  rw [h2, h5] at h1
  revert h1
  decide +kernel
def E25 : Cv := ⟨toF ed, toF ei, by rw [← toF_mul, ← toF_mod, ei_sq, neg_one], no_sq ed ed_no⟩
def bx : Nat := 15112221349535400772501151409588531511454012693041857206046113283949847762202
def by_ : Nat := 46316835694926478169428394003475163141307993866256225615783033603165251855960
theorem base_on : On E25.d (toF bx) (toF by_) := by unfold On; decide +kernel
def B25 : Pt E25 := ⟨toF bx, toF by_, base_on⟩
structure Tr where
 x : Nat
 y : Nat
 z : Nat
def Tr.of {C : Cv} (t : Tr) (p : Pt C) : Prop := toF t.z ≠ 0 ∧ toF t.x = p.x * toF t.z ∧ toF t.y = p.y * toF t.z
def Tr.plus (dd : Nat) (p q : Tr) : Tr :=
 let a := p.z * q.z % P25
 let b := a * a % P25
 let xx := p.x * q.x % P25
 let yy := p.y * q.y % P25
 let xy := (p.x * q.y % P25 + p.y * q.x % P25) % P25
 let e := dd * (xx * yy % P25) % P25
 let low := (b + (P25 - e)) % P25
 let high := (b + e) % P25
 ⟨a * (low * xy % P25) % P25, a * (high * ((yy + xx) % P25) % P25) % P25, low * high % P25⟩
theorem toF_sub {m n : Nat} (h : n ≤ P25) : toF (m + (P25 - n)) = toF m - toF n := by
 have : toF (m + (P25 - n)) + toF n = toF m := by
  rw [← toF_add, show m + (P25 - n) + n = m + P25 by omega, ← toF_mod (m + P25), Nat.add_mod_right, toF_mod]
 grind
theorem Tr.plus_of {C : Cv} {dd : Nat} (hd : C.d = toF dd) {s t : Tr} {p q : Pt C} (hs : s.of p) (ht : t.of q) : (Tr.plus dd s t).of (p.add q) := by
 obtain ⟨z1, x1, y1⟩ := hs
 obtain ⟨z2, x2, y2⟩ := ht
 have h1 := sx_mul p q
 have h2 := sy_mul p q
 have n1 := dp_ne p q
 have n2 := dm_ne p q
 have e1 : (p.add q).x = sx C.d p.x p.y q.x q.y := rfl
 have e2 : (p.add q).y = sy C.d p.x p.y q.x q.y := rfl
 unfold Tr.of Tr.plus
 simp only []
 have hl : dd * (s.x * t.x % P25 * (s.y * t.y % P25) % P25) % P25 ≤ P25 := Nat.le_of_lt (Nat.mod_lt _ (by decide +kernel))
 simp only [toF_mod, toF_mul, toF_sub hl, toF_add]
 rw [e1, e2, ← hd, x1, y1, x2, y2]
 generalize sx C.d p.x p.y q.x q.y = X at *
 generalize sy C.d p.x p.y q.x q.y = Y at *
 generalize toF s.z = u at *
 generalize toF t.z = v at *
 have k1 : u * v * (u * v) - C.d * (p.x * u * (q.x * v) * (p.y * u * (q.y * v))) = u * v * (u * v) * (1 - dt C.d p.x p.y q.x q.y) := by unfold dt; grind
 have k2 : u * v * (u * v) + C.d * (p.x * u * (q.x * v) * (p.y * u * (q.y * v))) = u * v * (u * v) * (1 + dt C.d p.x p.y q.x q.y) := by unfold dt; grind
 rw [k1, k2]
 generalize 1 + dt C.d p.x p.y q.x q.y = A at *
 generalize 1 - dt C.d p.x p.y q.x q.y = B at *
 have huv : u * v * (u * v) ≠ 0 := mul_ne (mul_ne z1 z2) (mul_ne z1 z2)
 refine ⟨mul_ne (mul_ne huv n2) (mul_ne huv n1), ?_, ?_⟩
 ·clear e1 e2 hl k1 k2 x1 x2 y1 y2
  grind
 ·clear e1 e2 hl k1 k2 x1 x2 y1 y2
  grind
def Tr.times (dd : Nat) (p : Tr) (n : Nat) : Nat → Tr
 | 0 => ⟨0, 1, 1⟩
 | k + 1 =>
  let q := Tr.times dd p (n / 2) k
  let t := Tr.plus dd q q
  if n % 2 = 1 then Tr.plus dd t p else t
theorem Tr.nought_of (C : Cv) : (⟨0, 1, 1⟩ : Tr).of (Pt.nought C) := by
 unfold Tr.of Pt.nought
 simp only []
 refine ⟨by decide +kernel, ?_, ?_⟩
 ·decide +kernel
 ·decide +kernel
theorem Tr.times_of {C : Cv} {dd : Nat} (hd : C.d = toF dd) {s : Tr} {p : Pt C} (hs : s.of p) : ∀ (k n : Nat), n < 2 ^ k → (Tr.times dd s n k).of (p.mul n)
 | 0, n, h => by
  have : n = 0 := by simpa using h
  subst this
  exact Tr.nought_of C
 | k + 1, n, h => by
  have ih := Tr.times_of hd hs k (n / 2) (by rw [Nat.pow_succ] at h; omega)
  have h2 := Tr.plus_of hd ih ih
  rw [← Pt.mul_two] at h2
  unfold Tr.times
  simp only []
  by_cases hn : n % 2 = 1
  ·rw [if_pos hn]
   have h3 := Tr.plus_of hd h2 hs
   have e : n = 2 * (n / 2) + 1 := by omega
   conv => rhs; rw [e]
   exact h3
  ·rw [if_neg hn]
   have e : n = 2 * (n / 2) := by omega
   conv => rhs; rw [e]
   exact h2
def LB : Nat := 7237005577332262213973186563042994240857116359379907606001950938285454250989
def endB : Tr := Tr.times ed ⟨bx, by_, 1⟩ LB 256
end
section
variable {C : Cv}
def Ms (X Z : Fp) (p : Pt C) : Prop := X * (1 - p.y) = Z * (1 + p.y) ∧ (X ≠ 0 ∨ Z ≠ 0)
theorem half_mul : inv 2 * 2 = (1 : Fp) := by have := einv_mul two_ne; grind
theorem Ms.lam {X Z : Fp} {p : Pt C} (h : Ms X Z p) : ∃ l, l ≠ 0 ∧ X = l * (1 + p.y) ∧ Z = l * (1 - p.y) := by
 obtain ⟨h1, h2⟩ := h
 have h3 := half_mul
 generalize inv 2 = j at h3
 have e1 : X = (X + Z) * j * (1 + p.y) := by generalize p.y = y at *; grind
 have e2 : Z = (X + Z) * j * (1 - p.y) := by generalize p.y = y at *; grind
 refine ⟨(X + Z) * j, fun h0 => ?_, e1, e2⟩
 rw [h0] at e1 e2
 rcases h2 with h2 | h2
 ·apply h2; grind
 ·apply h2; grind
theorem c6_ne : (121666 : Fp) ≠ 0 := by decide +kernel
theorem c6_of : (121666 : Fp) = (1 - 0 * 0) * (1 + 121665 * (1 - 0 * 0)) := by decide +kernel
theorem two_sum {v : Fp} : (2 : Fp) = (1 - v) + (1 + v) := by grind
theorem two_of {v : Fp} (h : 1 - v = 0) (h' : 1 + v = 0) : (2 : Fp) = 0 := by rw [two_sum (v := v), h, h']; rfl
theorem fr_minus {w S N : Fp} (h : w * S = N) : S * (1 - w) = S - N := by grind
theorem fr_plus {w S N : Fp} (h : w * S = N) : S * (1 + w) = S + N := by grind
theorem neg_den {d x1 x2 y1 y2 : Fp} : 1 - d * x2 * -x1 * y2 * y1 = 1 + d * x1 * x2 * y1 * y2 := by grind
theorem neg_num {x1 x2 y1 y2 : Fp} : y2 * y1 + x2 * -x1 = y1 * y2 - x1 * x2 := by grind
theorem diff_add {d x1 y1 x2 y2 : Fp} (o1 : On d x1 y1) (o2 : On d x2 y2) : (y1 + y2) * (y1 + y2) * ((1 - d * x1 * x2 * y1 * y2) - (y1 * y2 + x1 * x2)) * ((1 + d * x1 * x2 * y1 * y2) - (y1 * y2 - x1 * x2)) = (y2 - y1) * (y2 - y1) * ((1 - d * x1 * x2 * y1 * y2) + (y1 * y2 + x1 * x2)) * ((1 + d * x1 * x2 * y1 * y2) + (y1 * y2 - x1 * x2)) := by
 unfold On at o1 o2
 grind
theorem fin_add {k y1 y2 S R v w U : Fp} (g : (y1 + y2) * (y1 + y2) * (S * (1 - w)) * (R * (1 - v)) = (y2 - y1) * (y2 - y1) * (S * (1 + w)) * (R * (1 + v))) (hU : U * (1 - v) = 1 + v) :
  (1 - v) * (S * R) * (k * (y2 + y1) * (k * (y2 + y1)) * (1 - w)) = (1 - v) * (S * R) * (U * (k * (y2 - y1) * (k * (y2 - y1))) * (1 + w)) := by grind
theorem c16_ne : (16 : Fp) ≠ 0 := by decide +kernel
theorem Ms.dbl {X Z : Fp} {p : Pt C} (hd : C.d * 121666 = -121665) (h : Ms X Z p) (aa bb e : Fp) (haa : aa = (X + Z) * (X + Z)) (hbb : bb = (X - Z) * (X - Z)) (he : e = aa - bb) :
  Ms (aa * bb) (e * (aa + 121665 * e)) (p.add p) := by
 obtain ⟨l, hl, rfl, rfl⟩ := h.lam
 have h1 := p.on
 have h2 := sy_mul p p
 have h3 := dm_ne p p
 have e1 : (p.add p).y = sy C.d p.x p.y p.x p.y := rfl
 have hx : aa * bb = 16 * (l * l) * (l * l) * (p.y * p.y) := by subst haa hbb; generalize p.y = y; grind
 have hz : e * (aa + 121665 * e) = 16 * (l * l) * (l * l) * ((1 - p.y * p.y) * (1 + 121665 * (1 - p.y * p.y))) := by subst he haa hbb; generalize p.y = y; grind
 have hll : 16 * (l * l) * (l * l) ≠ 0 := mul_ne (mul_ne c16_ne (mul_ne hl hl)) (mul_ne hl hl)
 rw [hx, hz]
 generalize 16 * (l * l) * (l * l) = m at *
 refine ⟨?_, ?_⟩
 ·rw [e1]
  generalize sy C.d p.x p.y p.x p.y = w at *
  unfold On at h1
  unfold dt at h2 h3
  refine cancel (mul_ne h3 c6_ne) ?_
  clear hx hz e1 hll h haa hbb he hl h3
  generalize p.x = x at *
  generalize p.y = y at *
  generalize C.d = d at *
  have k : (1 - d * x * x * y * y) * (1 - w) = 2 - 2 * (y * y) := by grind
  have k' : (1 - d * x * x * y * y) * (1 + w) = 2 + 2 * (x * x) := by grind
  have g : 121666 * (y * y) * (2 - 2 * (y * y)) = 121666 * ((1 - y * y) * (1 + 121665 * (1 - y * y))) * (2 + 2 * (x * x)) := by grind
  grind
 ·by_cases hy : p.y = 0
  ·right
   rw [hy]
   refine mul_ne hll ?_
   exact fun h0 => c6_ne (c6_of.trans h0)
  ·left
   exact mul_ne hll (mul_ne hy hy)
theorem Ms.add {X2 Z2 X3 Z3 U : Fp} {p q r : Pt C} (h2 : Ms X2 Z2 p) (h3 : Ms X3 Z3 q) (hq : q = p.add r) (hU : U * (1 - r.y) = 1 + r.y) (hU0 : U ≠ 0) (hn : p.y ≠ 0 ∨ q.y ≠ 0) (da cb : Fp) (hda : da = (X3 - Z3) * (X2 + Z2)) (hcb : cb = (X3 + Z3) * (X2 - Z2)) :
  Ms ((da + cb) * (da + cb)) (U * ((da - cb) * (da - cb))) (p.add q) := by
 obtain ⟨l, hl, rfl, rfl⟩ := h2.lam
 obtain ⟨m, hm, rfl, rfl⟩ := h3.lam
 have o1 := p.on
 have o2 := q.on
 have hs := sy_mul p q
 have hsn := dm_ne p q
 have e1 : (p.add q).y = sy C.d p.x p.y q.x q.y := rfl
 have hr : r = q.add p.neg := by rw [hq, Pt.comm p r, Pt.assoc, Pt.add_neg, Pt.add_nought]
 have hr2 := sy_mul q p.neg
 have hrn := dm_ne q p.neg
 have e2 : r.y = sy C.d q.x q.y p.neg.x p.neg.y := by rw [hr]; rfl
 have e3 : p.neg.x = -p.x := rfl
 have e4 : p.neg.y = p.y := rfl
 rw [← e2, e3, e4] at hr2
 rw [e3, e4] at hrn
 clear e2 e3 e4 hr hq h2 h3
 have h4 : (4 : Fp) ≠ 0 := by decide +kernel
 have hx : da + cb = 4 * (l * m) * (q.y + p.y) := by subst hda hcb; generalize p.y = y1; generalize q.y = y2; grind
 have hz : da - cb = 4 * (l * m) * (q.y - p.y) := by subst hda hcb; generalize p.y = y1; generalize q.y = y2; grind
 have hlm : 4 * (l * m) ≠ 0 := mul_ne h4 (mul_ne hl hm)
 rw [hx, hz]
 clear hx hz hda hcb
 generalize 4 * (l * m) = k at *
 unfold dt at hs hsn hr2 hrn
 rw [neg_den, neg_num] at hr2
 rw [neg_den] at hrn
 refine ⟨?_, ?_⟩
 ·rw [e1]
  by_cases hv : 1 - r.y = 0
  ·exact absurd (two_of hv (by rw [← hU, hv]; exact Fin.mul_zero U)) two_ne
  ·refine cancel (mul_ne hv (mul_ne hsn hrn)) (fin_add ?_ hU)
   rw [fr_minus hs, fr_plus hs, fr_minus hr2, fr_plus hr2]
   exact diff_add o1 o2
 ·by_cases h0 : q.y + p.y = 0
  ·right
   refine mul_ne hU0 (mul_ne (mul_ne hlm ?_) (mul_ne hlm ?_)) <;>
   ·intro h1
    have h2 : 2 * q.y = 0 := by generalize p.y = y1 at *; generalize q.y = y2 at *; grind
    rcases mul_zero' h2 with h3 | h3
    ·exact two_ne h3
    ·rcases hn with h5 | h5
     ·apply h5; rw [h3] at h1; generalize p.y = y1 at *; grind
     ·exact h5 h3
  ·left
   exact mul_ne (mul_ne hlm h0) (mul_ne hlm h0)
structure St where
 x2 : Fp
 z2 : Fp
 x3 : Fp
 z3 : Fp
def St.swap (b : Bool) (s : St) : St := if b then ⟨s.x3, s.z3, s.x2, s.z2⟩ else s
def St.step (u : Fp) (s : St) : St :=
 let a := s.x2 + s.z2
 let b := s.x2 - s.z2
 let da := (s.x3 - s.z3) * a
 let cb := (s.x3 + s.z3) * b
 let aa := a * a
 let bb := b * b
 let e := aa - bb
 ⟨aa * bb, e * (aa + 121665 * e), (da + cb) * (da + cb), u * ((da - cb) * (da - cb))⟩
def kbit (k n : Nat) : Bool := decide (k / 2 ^ n % 2 = 1)
def lad (u : Fp) (k : Nat) : Nat → St
 | 0 => ⟨1, 0, u, 1⟩
 | n + 1 => ((((lad u k n).swap (kbit k (254 - n))).step u).swap (kbit k (254 - n)))
def ladder (u : Fp) (k : Nat) : Fp := (lad u k 255).x2 * inv (lad u k 255).z2
def uo (p : Pt C) : Fp := (1 + p.y) * inv (1 - p.y)
end
section
variable {C : Cv}
theorem einv_zero : inv (0 : Fp) = 0 := by
 unfold inv
 rw [toF_pow]
 exact pow_zero' rfl _ (by decide +kernel)
theorem quot {l a b i j : Fp} (h1 : l * b * i = 1) (h2 : b * j = 1) : l * a * i = a * j := by grind
theorem Ms.out {X Z : Fp} {p : Pt C} (h : Ms X Z p) : X * inv Z = uo p := by
 obtain ⟨l, hl, rfl, rfl⟩ := h.lam
 unfold uo
 by_cases h0 : 1 - p.y = 0
 ·rw [h0, Fin.mul_zero, einv_zero, Fin.mul_zero, Fin.mul_zero]
 ·exact quot (einv_mul (mul_ne hl h0)) (einv_mul h0)
end
section
def sbN (x y : Nat) : Nat := (x + (P25 - y)) % P25
def adN (x y : Nat) : Nat := (x + y) % P25
def mlN (x y : Nat) : Nat := x * y % P25
theorem sbN_lt (x y : Nat) : sbN x y < P25 := Nat.mod_lt _ (by decide +kernel)
theorem adN_lt (x y : Nat) : adN x y < P25 := Nat.mod_lt _ (by decide +kernel)
theorem mlN_lt (x y : Nat) : mlN x y < P25 := Nat.mod_lt _ (by decide +kernel)
theorem toF_sbN (x y : Nat) (h : y < P25) : toF (sbN x y) = toF x - toF y := by unfold sbN; rw [toF_mod, toF_sub (Nat.le_of_lt h)]
theorem toF_adN (x y : Nat) : toF (adN x y) = toF x + toF y := by unfold adN; rw [toF_mod, toF_add]
theorem toF_mlN (x y : Nat) : toF (mlN x y) = toF x * toF y := by unfold mlN; rw [toF_mod, toF_mul]
structure SN where
 x2 : Nat
 z2 : Nat
 x3 : Nat
 z3 : Nat
def SN.ok (s : SN) : Prop := s.x2 < P25 ∧ s.z2 < P25 ∧ s.x3 < P25 ∧ s.z3 < P25
def SN.swap (b : Bool) (s : SN) : SN := if b then ⟨s.x3, s.z3, s.x2, s.z2⟩ else s
def SN.step (u : Nat) (s : SN) : SN :=
 let a := adN s.x2 s.z2
 let b := sbN s.x2 s.z2
 let da := mlN (sbN s.x3 s.z3) a
 let cb := mlN (adN s.x3 s.z3) b
 let aa := mlN a a
 let bb := mlN b b
 let e := sbN aa bb
 ⟨mlN aa bb, mlN e (adN aa (mlN 121665 e)), mlN (adN da cb) (adN da cb), mlN u (mlN (sbN da cb) (sbN da cb))⟩
def SN.toSt (s : SN) : St := ⟨toF s.x2, toF s.z2, toF s.x3, toF s.z3⟩
def ladN (u k : Nat) : Nat → SN
 | 0 => ⟨1, 0, u, 1⟩
 | n + 1 => (((ladN u k n).swap (kbit k (254 - n))).step u).swap (kbit k (254 - n))
def ladderN (u k : Nat) : Nat := mlN (ladN u k 255).x2 ((ladN u k 255).z2 ^ (P25 - 2) % P25)
theorem inv_to {z : Nat} (hz : z < P25) : toF (z ^ (P25 - 2) % P25) = inv (toF z) := by
 unfold inv
 rw [toF_mod, toF_val, Nat.mod_eq_of_lt hz]
end
section
theorem LB_pos : 0 < LB := by decide +kernel
end
end Go.Proofs.YtkbkalhcdbklkaaGreatDoor
