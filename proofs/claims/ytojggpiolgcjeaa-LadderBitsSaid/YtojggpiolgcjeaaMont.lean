/-
  The ladder: what it makes of a number that stands for a point of odd order is what stands for so many times that point. Of no program. By an AI agent.
-/
import Derived.Test.YtojggpiolgcjeaaEdw3
namespace Go.Proofs.Ytojggpiolgcjeaa
variable {C : Cv}
/-- (X : Z) stands for a point: (1 + y : 1 - y). -/
def Ms (X Z : Fp) (p : Pt C) : Prop := X * (1 - p.y) = Z * (1 + p.y) ∧ (X ≠ 0 ∨ Z ≠ 0)
theorem half_mul : inv 2 * 2 = (1 : Fp) := by have := einv_mul two_ne; grind
theorem Ms.lam {X Z : Fp} {p : Pt C} (h : Ms X Z p) : ∃ l, l ≠ 0 ∧ X = l * (1 + p.y) ∧ Z = l * (1 - p.y) := by
  obtain ⟨h1, h2⟩ := h
  have h3 := half_mul
  generalize inv 2 = j at h3
  have e1 : X = (X + Z) * j * (1 + p.y) := by generalize p.y = y at *; grind
  have e2 : Z = (X + Z) * j * (1 - p.y) := by generalize p.y = y at *; grind
  refine ⟨(X + Z) * j, fun h0 => ?_, e1, e2⟩
  rw [h0] at e1 e2
  rcases h2 with h2 | h2
  · apply h2; grind
  · apply h2; grind
theorem c6_ne : (121666 : Fp) ≠ 0 := by decide +kernel
theorem c6_of : (121666 : Fp) = (1 - 0 * 0) * (1 + 121665 * (1 - 0 * 0)) := by decide +kernel
theorem two_sum {v : Fp} : (2 : Fp) = (1 - v) + (1 + v) := by grind
theorem two_of {v : Fp} (h : 1 - v = 0) (h' : 1 + v = 0) : (2 : Fp) = 0 := by rw [two_sum (v := v), h, h']; rfl
theorem fr_minus {w S N : Fp} (h : w * S = N) : S * (1 - w) = S - N := by grind
theorem fr_plus {w S N : Fp} (h : w * S = N) : S * (1 + w) = S + N := by grind
theorem neg_den {d x1 x2 y1 y2 : Fp} : 1 - d * x2 * -x1 * y2 * y1 = 1 + d * x1 * x2 * y1 * y2 := by grind
theorem neg_num {x1 x2 y1 y2 : Fp} : y2 * y1 + x2 * -x1 = y1 * y2 - x1 * x2 := by grind
theorem diff_add {d x1 y1 x2 y2 : Fp} (o1 : On d x1 y1) (o2 : On d x2 y2) : (y1 + y2) * (y1 + y2) * ((1 - d * x1 * x2 * y1 * y2) - (y1 * y2 + x1 * x2)) * ((1 + d * x1 * x2 * y1 * y2) - (y1 * y2 - x1 * x2)) = (y2 - y1) * (y2 - y1) * ((1 - d * x1 * x2 * y1 * y2) + (y1 * y2 + x1 * x2)) * ((1 + d * x1 * x2 * y1 * y2) + (y1 * y2 - x1 * x2)) := by
  unfold On at o1 o2
  grind
theorem fin_add {k y1 y2 S R v w U : Fp} (g : (y1 + y2) * (y1 + y2) * (S * (1 - w)) * (R * (1 - v)) = (y2 - y1) * (y2 - y1) * (S * (1 + w)) * (R * (1 + v))) (hU : U * (1 - v) = 1 + v) :
    (1 - v) * (S * R) * (k * (y2 + y1) * (k * (y2 + y1)) * (1 - w)) = (1 - v) * (S * R) * (U * (k * (y2 - y1) * (k * (y2 - y1))) * (1 + w)) := by grind
theorem c16_ne : (16 : Fp) ≠ 0 := by decide +kernel
theorem Ms.dbl {X Z : Fp} {p : Pt C} (hd : C.d * 121666 = -121665) (h : Ms X Z p) (aa bb e : Fp) (haa : aa = (X + Z) * (X + Z)) (hbb : bb = (X - Z) * (X - Z)) (he : e = aa - bb) :
    Ms (aa * bb) (e * (aa + 121665 * e)) (p.add p) := by
  obtain ⟨l, hl, rfl, rfl⟩ := h.lam
  have h1 := p.on
  have h2 := sy_mul p p
  have h3 := dm_ne p p
  have e1 : (p.add p).y = sy C.d p.x p.y p.x p.y := rfl
  have hx : aa * bb = 16 * (l * l) * (l * l) * (p.y * p.y) := by subst haa hbb; generalize p.y = y; grind
  have hz : e * (aa + 121665 * e) = 16 * (l * l) * (l * l) * ((1 - p.y * p.y) * (1 + 121665 * (1 - p.y * p.y))) := by subst he haa hbb; generalize p.y = y; grind
  have hll : 16 * (l * l) * (l * l) ≠ 0 := mul_ne (mul_ne c16_ne (mul_ne hl hl)) (mul_ne hl hl)
  rw [hx, hz]
  generalize 16 * (l * l) * (l * l) = m at *
  refine ⟨?_, ?_⟩
  · rw [e1]
    generalize sy C.d p.x p.y p.x p.y = w at *
    unfold On at h1
    unfold dt at h2 h3
    refine cancel (mul_ne h3 c6_ne) ?_
    clear hx hz e1 hll h haa hbb he hl h3
    generalize p.x = x at *
    generalize p.y = y at *
    generalize C.d = d at *
    have k : (1 - d * x * x * y * y) * (1 - w) = 2 - 2 * (y * y) := by grind
    have k' : (1 - d * x * x * y * y) * (1 + w) = 2 + 2 * (x * x) := by grind
    have g : 121666 * (y * y) * (2 - 2 * (y * y)) = 121666 * ((1 - y * y) * (1 + 121665 * (1 - y * y))) * (2 + 2 * (x * x)) := by grind
    grind
  · by_cases hy : p.y = 0
    · right
      rw [hy]
      refine mul_ne hll ?_
      exact fun h0 => c6_ne (c6_of.trans h0)
    · left
      exact mul_ne hll (mul_ne hy hy)
theorem Ms.add {X2 Z2 X3 Z3 U : Fp} {p q r : Pt C} (h2 : Ms X2 Z2 p) (h3 : Ms X3 Z3 q) (hq : q = p.add r) (hU : U * (1 - r.y) = 1 + r.y) (hU0 : U ≠ 0) (hn : p.y ≠ 0 ∨ q.y ≠ 0) (da cb : Fp) (hda : da = (X3 - Z3) * (X2 + Z2)) (hcb : cb = (X3 + Z3) * (X2 - Z2)) :
    Ms ((da + cb) * (da + cb)) (U * ((da - cb) * (da - cb))) (p.add q) := by
  obtain ⟨l, hl, rfl, rfl⟩ := h2.lam
  obtain ⟨m, hm, rfl, rfl⟩ := h3.lam
  have o1 := p.on
  have o2 := q.on
  have hs := sy_mul p q
  have hsn := dm_ne p q
  have e1 : (p.add q).y = sy C.d p.x p.y q.x q.y := rfl
  have hr : r = q.add p.neg := by rw [hq, Pt.comm p r, Pt.assoc, Pt.add_neg, Pt.add_nought]
  have hr2 := sy_mul q p.neg
  have hrn := dm_ne q p.neg
  have e2 : r.y = sy C.d q.x q.y p.neg.x p.neg.y := by rw [hr]; rfl
  have e3 : p.neg.x = -p.x := rfl
  have e4 : p.neg.y = p.y := rfl
  rw [← e2, e3, e4] at hr2
  rw [e3, e4] at hrn
  clear e2 e3 e4 hr hq h2 h3
  have h4 : (4 : Fp) ≠ 0 := by decide +kernel
  have hx : da + cb = 4 * (l * m) * (q.y + p.y) := by subst hda hcb; generalize p.y = y1; generalize q.y = y2; grind
  have hz : da - cb = 4 * (l * m) * (q.y - p.y) := by subst hda hcb; generalize p.y = y1; generalize q.y = y2; grind
  have hlm : 4 * (l * m) ≠ 0 := mul_ne h4 (mul_ne hl hm)
  rw [hx, hz]
  clear hx hz hda hcb
  generalize 4 * (l * m) = k at *
  unfold dt at hs hsn hr2 hrn
  rw [neg_den, neg_num] at hr2
  rw [neg_den] at hrn
  refine ⟨?_, ?_⟩
  · rw [e1]
    by_cases hv : 1 - r.y = 0
    · exact absurd (two_of hv (by rw [← hU, hv]; exact Fin.mul_zero U)) two_ne
    · refine cancel (mul_ne hv (mul_ne hsn hrn)) (fin_add ?_ hU)
      rw [fr_minus hs, fr_plus hs, fr_minus hr2, fr_plus hr2]
      exact diff_add o1 o2
  · by_cases h0 : q.y + p.y = 0
    · right
      refine mul_ne hU0 (mul_ne (mul_ne hlm ?_) (mul_ne hlm ?_)) <;>
      · intro h1
        have h2 : 2 * q.y = 0 := by generalize p.y = y1 at *; generalize q.y = y2 at *; grind
        rcases mul_zero' h2 with h3 | h3
        · exact two_ne h3
        · rcases hn with h5 | h5
          · apply h5; rw [h3] at h1; generalize p.y = y1 at *; grind
          · exact h5 h3
    · left
      exact mul_ne (mul_ne hlm h0) (mul_ne hlm h0)
/-- The state of the ladder, one step, and all steps from the highest bit on. -/
structure St where
  x2 : Fp
  z2 : Fp
  x3 : Fp
  z3 : Fp
def St.swap (b : Bool) (s : St) : St := if b then ⟨s.x3, s.z3, s.x2, s.z2⟩ else s
def St.step (u : Fp) (s : St) : St :=
  let a := s.x2 + s.z2
  let b := s.x2 - s.z2
  let da := (s.x3 - s.z3) * a
  let cb := (s.x3 + s.z3) * b
  let aa := a * a
  let bb := b * b
  let e := aa - bb
  ⟨aa * bb, e * (aa + 121665 * e), (da + cb) * (da + cb), u * ((da - cb) * (da - cb))⟩
def kbit (k n : Nat) : Bool := decide (k / 2 ^ n % 2 = 1)
def lad (u : Fp) (k : Nat) : Nat → St
  | 0 => ⟨1, 0, u, 1⟩
  | n + 1 => ((((lad u k n).swap (kbit k (254 - n))).step u).swap (kbit k (254 - n)))
def ladder (u : Fp) (k : Nat) : Fp := (lad u k 255).x2 * inv (lad u k 255).z2
/-- What stands for a point. -/
def uo (p : Pt C) : Fp := (1 + p.y) * inv (1 - p.y)
/-- A point of odd order is nought, if four times it is. -/
theorem odd_four {p : Pt C} {L : Nat} (hL : L % 2 = 1) (h : p.mul L = Pt.nought C) (m : Nat) (h4 : p.mul (4 * m) = Pt.nought C) : p.mul m = Pt.nought C := by
  have key : ∃ a b : Nat, 4 * a = 1 + L * b := by
    have : L % 4 = 1 ∨ L % 4 = 3 := by omega
    rcases this with h1 | h1
    · exact ⟨(1 + L * 3) / 4, 3, by omega⟩
    · exact ⟨(1 + L) / 4, 1, by omega⟩
  obtain ⟨a, b, hab⟩ := key
  have e1 : p.mul (4 * m * a) = Pt.nought C := by rw [← Pt.mul_mul, h4, Pt.mul_nought]
  have e2 : 4 * m * a = m + L * (b * m) := by
    have : 4 * m * a = m * (4 * a) := by rw [Nat.mul_comm 4 m, Nat.mul_assoc]
    rw [this, hab, Nat.mul_add, Nat.mul_one, Nat.mul_left_comm, Nat.mul_comm m b]
  rw [e2, Pt.mul_add, ← Pt.mul_mul p L, h, Pt.mul_nought, Pt.add_nought] at e1
  exact e1
theorem on_two {d z m : Fp} (hz : z = 0) (hm : m = -1) : m * m - z * z = 1 + d * (z * z) * (m * m) := by grind
theorem y4_1 {x y A z : Fp} (hy : y = 0) (hz : z = 0) : z * A = x * y + y * x := by grind
theorem y4_2 {d x y m : Fp} (h : y * y - x * x = 1 + d * (x * x) * (y * y)) (hy : y = 0) (hm : m = -1) : m * (1 - d * x * x * y * y) = y * y + x * x := by grind
theorem y4_3 {z m A : Fp} (hz : z = 0) : z * A = z * m + m * z := by grind
theorem y4_4 {d z m o : Fp} (hz : z = 0) (hm : m = -1) (ho : o = 1) : o * (1 - d * z * z * m * m) = m * m + z * z := by grind
theorem y_zero_four {p : Pt C} (h : p.y = 0) : (p.add p).add (p.add p) = Pt.nought C := by
  have h2 : p.add p = ⟨0, -1, on_two rfl rfl⟩ := Pt.add_is p p _ (y4_1 h rfl) (y4_2 p.on h rfl)
  rw [h2]
  exact Pt.add_is _ _ _ (y4_3 rfl) (y4_4 rfl rfl rfl)
theorem mul_y_ne {p : Pt C} {L : Nat} (hL : L % 2 = 1) (h : p.mul L = Pt.nought C) (m : Nat) : (p.mul m).y ≠ 0 := by
  intro h0
  have h4 := y_zero_four h0
  rw [← Pt.mul_two, ← Pt.mul_two, show 2 * (2 * m) = 4 * m by omega] at h4
  have := odd_four hL h m h4
  rw [this] at h0
  revert h0
  show (1 : Fp) = 0 → False
  decide +kernel
end Go.Proofs.Ytojggpiolgcjeaa
