/-
  The curve of this program: d is no square; the base point; L times it is nought. Of no program. By an AI agent.
-/
import Derived.Test.YtojggpiolgcjeaaEdw2
namespace Go.Proofs.Ytojggpiolgcjeaa
def ed : Nat := 37095705934669439343138083508754565189542113879843219016388785533085940283555
def ei : Nat := 19681161376707505956807079304988542015446066515923890162744021073123829784752
theorem ei_sq : ei * ei % P25 = P25 - 1 := by decide +kernel
theorem ed_no : pm P25 256 ed ((P25 - 1) / 2) = P25 - 1 := by decide +kernel
theorem half2 : 2 * ((P25 - 1) / 2) = P25 - 1 := by decide +kernel
theorem neg_one : toF (P25 - 1) = -1 := by decide +kernel
theorem half_small : (P25 - 1) / 2 < 2 ^ 256 := by decide +kernel
theorem half_ne : (P25 - 1) / 2 ≠ 0 := by decide +kernel
theorem pow_zero' {z : Fp} (hz : z = 0) : ∀ k : Nat, k ≠ 0 → z ^ k = 0
  | 0, h => absurd rfl h
  | k + 1, _ => by
    have : z ^ (k + 1) = z ^ k * z := by grind
    rw [this, hz]
    grind
theorem no_sq (dd : Nat) (h : pm P25 256 dd ((P25 - 1) / 2) = P25 - 1) (s : Fp) : s * s ≠ toF dd := by
  intro hs
  rw [pm_eq P25 256 dd _ half_small] at h
  have h1 : toF (dd ^ ((P25 - 1) / 2)) = -1 := by rw [← toF_mod, h, neg_one]
  have h2 : toF (dd ^ ((P25 - 1) / 2)) = toF (s.val ^ (P25 - 1)) := by
    rw [toF_pow, ← hs, ← toF_self s, ← toF_mul, ← toF_pow, toF_self, show s.val * s.val = s.val ^ 2 by rw [Nat.pow_succ, Nat.pow_one], ← Nat.pow_mul, half2]
  by_cases h0 : s = 0
  · have hz : toF dd = 0 := by rw [← hs, h0]; grind
    have h3 : toF (dd ^ ((P25 - 1) / 2)) = 0 := by rw [toF_pow]; exact pow_zero' hz _ half_ne
    rw [h1] at h3
    revert h3
    decide +kernel
  · have h0' : s.val % P25 ≠ 0 := fun h => h0 (Fin.ext ((Nat.mod_eq_of_lt s.isLt).symm.trans h))
    have h4 := prP.fermat fun hd => h0' (Nat.mod_eq_zero_of_dvd hd)
    have h5 : toF (s.val ^ (P25 - 1)) = 1 := by rw [← toF_mod, h4]; rfl
    rw [h2, h5] at h1
    revert h1
    decide +kernel
/-- The curve. -/
def E25 : Cv := ⟨toF ed, toF ei, by rw [← toF_mul, ← toF_mod, ei_sq, neg_one], no_sq ed ed_no⟩
def bx : Nat := 15112221349535400772501151409588531511454012693041857206046113283949847762202
def by_ : Nat := 46316835694926478169428394003475163141307993866256225615783033603165251855960
theorem base_on : On E25.d (toF bx) (toF by_) := by unfold On; decide +kernel
def B25 : Pt E25 := ⟨toF bx, toF by_, base_on⟩
/-! Three numbers a point: x over z, y over z. -/
structure Tr where
  x : Nat
  y : Nat
  z : Nat
def Tr.of {C : Cv} (t : Tr) (p : Pt C) : Prop := toF t.z ≠ 0 ∧ toF t.x = p.x * toF t.z ∧ toF t.y = p.y * toF t.z
/-- The sum, as the document tells it: by the curve's number. -/
def Tr.plus (dd : Nat) (p q : Tr) : Tr :=
  let a := p.z * q.z % P25
  let b := a * a % P25
  let xx := p.x * q.x % P25
  let yy := p.y * q.y % P25
  let xy := (p.x * q.y % P25 + p.y * q.x % P25) % P25
  let e := dd * (xx * yy % P25) % P25
  let low := (b + (P25 - e)) % P25
  let high := (b + e) % P25
  ⟨a * (low * xy % P25) % P25, a * (high * ((yy + xx) % P25) % P25) % P25, low * high % P25⟩
theorem toF_sub {m n : Nat} (h : n ≤ P25) : toF (m + (P25 - n)) = toF m - toF n := by
  have : toF (m + (P25 - n)) + toF n = toF m := by
    rw [← toF_add, show m + (P25 - n) + n = m + P25 by omega, ← toF_mod (m + P25), Nat.add_mod_right, toF_mod]
  grind
theorem Tr.plus_of {C : Cv} {dd : Nat} (hd : C.d = toF dd) {s t : Tr} {p q : Pt C} (hs : s.of p) (ht : t.of q) : (Tr.plus dd s t).of (p.add q) := by
  obtain ⟨z1, x1, y1⟩ := hs
  obtain ⟨z2, x2, y2⟩ := ht
  have h1 := sx_mul p q
  have h2 := sy_mul p q
  have n1 := dp_ne p q
  have n2 := dm_ne p q
  have e1 : (p.add q).x = sx C.d p.x p.y q.x q.y := rfl
  have e2 : (p.add q).y = sy C.d p.x p.y q.x q.y := rfl
  unfold Tr.of Tr.plus
  simp only []
  have hl : dd * (s.x * t.x % P25 * (s.y * t.y % P25) % P25) % P25 ≤ P25 := Nat.le_of_lt (Nat.mod_lt _ (by decide +kernel))
  simp only [toF_mod, toF_mul, toF_sub hl, toF_add]
  rw [e1, e2, ← hd, x1, y1, x2, y2]
  generalize sx C.d p.x p.y q.x q.y = X at *
  generalize sy C.d p.x p.y q.x q.y = Y at *
  generalize toF s.z = u at *
  generalize toF t.z = v at *
  have k1 : u * v * (u * v) - C.d * (p.x * u * (q.x * v) * (p.y * u * (q.y * v))) = u * v * (u * v) * (1 - dt C.d p.x p.y q.x q.y) := by unfold dt; grind
  have k2 : u * v * (u * v) + C.d * (p.x * u * (q.x * v) * (p.y * u * (q.y * v))) = u * v * (u * v) * (1 + dt C.d p.x p.y q.x q.y) := by unfold dt; grind
  rw [k1, k2]
  generalize 1 + dt C.d p.x p.y q.x q.y = A at *
  generalize 1 - dt C.d p.x p.y q.x q.y = B at *
  have huv : u * v * (u * v) ≠ 0 := mul_ne (mul_ne z1 z2) (mul_ne z1 z2)
  refine ⟨mul_ne (mul_ne huv n2) (mul_ne huv n1), ?_, ?_⟩
  · clear e1 e2 hl k1 k2 x1 x2 y1 y2
    grind
  · clear e1 e2 hl k1 k2 x1 x2 y1 y2
    grind
/-- So many times, from the highest bit. -/
def Tr.times (dd : Nat) (p : Tr) (n : Nat) : Nat → Tr
  | 0 => ⟨0, 1, 1⟩
  | k + 1 =>
    let q := Tr.times dd p (n / 2) k
    let t := Tr.plus dd q q
    if n % 2 = 1 then Tr.plus dd t p else t
theorem Tr.nought_of (C : Cv) : (⟨0, 1, 1⟩ : Tr).of (Pt.nought C) := by
  unfold Tr.of Pt.nought
  simp only []
  refine ⟨by decide +kernel, ?_, ?_⟩
  · decide +kernel
  · decide +kernel
theorem Tr.times_of {C : Cv} {dd : Nat} (hd : C.d = toF dd) {s : Tr} {p : Pt C} (hs : s.of p) : ∀ (k n : Nat), n < 2 ^ k → (Tr.times dd s n k).of (p.mul n)
  | 0, n, h => by
    have : n = 0 := by simpa using h
    subst this
    exact Tr.nought_of C
  | k + 1, n, h => by
    have ih := Tr.times_of hd hs k (n / 2) (by rw [Nat.pow_succ] at h; omega)
    have h2 := Tr.plus_of hd ih ih
    rw [← Pt.mul_two] at h2
    unfold Tr.times
    simp only []
    by_cases hn : n % 2 = 1
    · rw [if_pos hn]
      have h3 := Tr.plus_of hd h2 hs
      have e : n = 2 * (n / 2) + 1 := by omega
      conv => rhs; rw [e]
      exact h3
    · rw [if_neg hn]
      have e : n = 2 * (n / 2) := by omega
      conv => rhs; rw [e]
      exact h2
def LB : Nat := 7237005577332262213973186563042994240857116359379907606001950938285454250989
def endB : Tr := Tr.times ed ⟨bx, by_, 1⟩ LB 256
theorem end_B : endB.x = 0 ∧ endB.y = endB.z := by decide +kernel
theorem base_order : B25.mul LB = Pt.nought E25 := by
  have hB : (⟨bx, by_, 1⟩ : Tr).of B25 := by
    refine ⟨?_, ?_, ?_⟩
    · decide +kernel
    · show toF bx = toF bx * 1; grind
    · show toF by_ = toF by_ * 1; grind
  have h := Tr.times_of (C := E25) (dd := ed) rfl hB 256 LB (by decide +kernel)
  obtain ⟨hz, hx, hy⟩ := h
  obtain ⟨g1, g2⟩ := end_B
  change toF endB.z ≠ 0 at hz
  change toF endB.x = _ * toF endB.z at hx
  change toF endB.y = _ * toF endB.z at hy
  rw [g1] at hx
  rw [g2] at hy
  generalize toF endB.z = z at *
  refine Pt.ext' (cancel hz ?_) (cancel hz ?_)
  · show _ = z * 0
    rw [toF_zero] at hx
    grind
  · show _ = z * 1
    grind
end Go.Proofs.Ytojggpiolgcjeaa
