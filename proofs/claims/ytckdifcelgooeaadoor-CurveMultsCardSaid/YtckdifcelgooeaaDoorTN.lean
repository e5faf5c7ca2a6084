/-
  ! The document's way to a root: one of four numbers. Numbers modulo 2^255 - 19 as a field; points of -x^2 + y^2 = 1 + d x^2 y^2, d no square: their sums are points, hang on no order and no brackets. Of no program. By an AI agent. The sum of two points: again a point; the order and the brackets; nought; the negative; multiples. Of no program. By an AI agent. The curve of this program: d is no square; the base point; L times it is nought. Of no program. By an AI agent. The ladder: what it makes of a number that stands for a point of odd order is what stands for so many times that point. Of no program. By an AI agent. The ladder of a number is what stands for so many times the point; two that know each one's secret share one number. Of no program. By an AI agent. The ladder in numbers below 2^255 - 19, as the document tells it. Of no program. By an AI agent.
-/
import Derived.Test.YtckdifcelgooeaaDoorTL
import Derived.Test.YtckdifcelgooeaaDoorMF
namespace Go.Proofs.YtckdifcelgooeaaDoor
/-! The document's way to a root: one of four numbers. -/
def TE : Nat := (P25 - 1) / 4
def TT : Nat := pm P25 256 2 TE
theorem tb_pm (a : Nat) : a ^ TE % P25 = pm P25 256 a TE := (pm_eq P25 256 a TE (by decide +kernel)).symm
theorem TT_sq : TT * TT % P25 = P25 - 1 := by decide +kernel
theorem TT_lt : TT < P25 := by decide +kernel
def XX (a : Nat) : Nat → Nat
  | 0 => a ^ ((P25 - 5) / 8) % P25 * a % P25
  | k + 1 => XX a k * TT % P25
def EE (a k : Nat) : Bool := decide (XX a k % 2 = 0) && decide (XX a k * XX a k % P25 = a)
theorem XX_lt (a : Nat) : ∀ k, XX a k < P25
  | 0 => Nat.mod_lt _ P25_pos
  | _ + 1 => Nat.mod_lt _ P25_pos
theorem RE_five : (P25 - 5) / 8 + 1 = RE := by decide +kernel
theorem XX_zero (a : Nat) : XX a 0 = rt0 a := by
  unfold XX rt0
  rw [← RE_five, Nat.pow_succ, Nat.mod_mul_mod]
theorem EE_root {a k : Nat} (h : EE a k = true) : HasRoot a ∧ XX a k = rt2 a := by
  unfold EE at h
  simp only [Bool.and_eq_true, decide_eq_true_eq] at h
  have hr : HasRoot a := ⟨_, h.2⟩
  refine ⟨hr, ?_⟩
  have h2 := rt2_sq hr
  rcases two_roots (XX_lt a k) (rt2_lt a) (h.2.trans h2.symm) with h3 | h3
  · exact h3
  · have h4 := rt2_even a
    have h5 := P_odd
    omega
theorem neg_of {y : Nat} (hy : y < P25) (h0 : y ≠ 0) : y * (P25 - 1) % P25 = P25 - y := by
  obtain ⟨m, hm⟩ := P25_three
  have e : y * (P25 - 1) = P25 - y + P25 * (y - 1) := by
    obtain ⟨t, rfl⟩ : ∃ t, y = t + 1 := ⟨y - 1, by omega⟩
    rw [show t + 1 - 1 = t by omega, Nat.mul_sub, Nat.mul_one, Nat.mul_comm (t + 1), Nat.mul_add, Nat.mul_one]
    have := Nat.le_mul_of_pos_left t P25_pos
    omega
  rw [e, Nat.add_mul_mod_self_left, Nat.mod_eq_of_lt (by omega)]
theorem XX_two (a k : Nat) : XX a (k + 2) = XX a k * (P25 - 1) % P25 := by
  show XX a k * TT % P25 * TT % P25 = _
  rw [Nat.mod_mul_mod, Nat.mul_assoc, Nat.mul_mod, TT_sq, Nat.mod_mul_mod]
theorem sq_TT (y : Nat) : y * TT % P25 * (y * TT % P25) % P25 = y * y % P25 * (P25 - 1) % P25 := by
  rw [← Nat.mul_mod, Nat.mul_mul_mul_comm, Nat.mul_mod, TT_sq]
theorem sq_IM (y : Nat) : y * IM % P25 * (y * IM % P25) % P25 = y * y % P25 * (P25 - 1) % P25 := by
  rw [← Nat.mul_mod, Nat.mul_mul_mul_comm, Nat.mul_mod, IM_sq]
/-- A root or its negative is even. -/
theorem even_one {a k : Nat} (h : XX a k * XX a k % P25 = a) : EE a k = true ∨ EE a (k + 2) = true := by
  by_cases he : XX a k % 2 = 0
  · left; unfold EE; rw [decide_eq_true he, decide_eq_true h]; rfl
  · right
    have hl := XX_lt a k
    have h0 : XX a k ≠ 0 := fun h0 => he (by rw [h0])
    have e : XX a (k + 2) = P25 - XX a k := by rw [XX_two, neg_of hl h0]
    have hs : XX a (k + 2) * XX a (k + 2) % P25 = a := by
      rw [e]
      have := fneg_sq hl
      rw [fneg_lt hl, if_neg h0] at this
      rw [this, h]
    have hp := P_odd
    unfold EE
    rw [decide_eq_true hs, decide_eq_true (show XX a (k + 2) % 2 = 0 by rw [e]; omega)]
    rfl
theorem root_found {a : Nat} (_ha : a < P25) (h : HasRoot a) : ∃ k, k < 4 ∧ EE a k = true := by
  have h1 := rt1_sq h
  unfold rt1 at h1
  by_cases h0 : rt0 a * rt0 a % P25 = a
  · have hx : XX a 0 * XX a 0 % P25 = a := by rw [XX_zero]; exact h0
    rcases even_one hx with h2 | h2
    · exact ⟨0, by decide, h2⟩
    · exact ⟨2, by decide, h2⟩
  · rw [if_neg h0, sq_IM] at h1
    have hx : XX a 1 * XX a 1 % P25 = a := by
      show XX a 0 * TT % P25 * (XX a 0 * TT % P25) % P25 = a
      rw [XX_zero, sq_TT, h1]
    rcases even_one hx with h2 | h2
    · exact ⟨1, by decide, h2⟩
    · exact ⟨3, by decide, h2⟩
/-- The first of the four, if there is one: what the loop says. -/
theorem root_first {a : Nat} (ha : a < P25) : (∀ k, k < 4 → (∀ j, j < k → EE a j = false) → EE a k = true → rtr a = XX a k ∧ decide (rtq a = 1) = true) ∧ ((∀ k, k < 4 → EE a k = false) → rtr a = 0 ∧ decide (rtq a = 1) = false) := by
  refine ⟨fun k _ _ hk => ?_, fun h => ?_⟩
  · obtain ⟨h1, h2⟩ := EE_root hk
    exact ⟨by rw [rtr_sq h1, h2], decide_eq_true ((rtq_iff a).2 h1)⟩
  · have hn : ¬ HasRoot a := fun hr => by
      obtain ⟨k, hk, he⟩ := root_found ha hr
      rw [h k hk] at he
      cases he
    refine ⟨?_, decide_eq_false fun hq => hn ((rtq_iff a).1 hq)⟩
    unfold rtr
    rw [if_neg fun h => hn ⟨_, h⟩]
theorem half_two : (P25 - 1) / 2 + (P25 - 1) / 2 = P25 - 1 := by decide +kernel
/-- Euler. -/
theorem euler {a : Nat} (ha : a < P25) : (decide (a ^ ((P25 - 1) / 2) % P25 = 1) || decide (a = 0)) = decide (rtq a = 1) := by
  have key : (a ^ ((P25 - 1) / 2) % P25 = 1 ∨ a = 0) ↔ HasRoot a := by
    constructor
    · rintro (h | h)
      · have hx : rt0 a * rt0 a % P25 * (rt0 a * rt0 a % P25) % P25 = a * a % P25 := by
          have e4 : rt0 a * rt0 a * (rt0 a * rt0 a) = rt0 a ^ 4 := by simp [Nat.pow_succ, Nat.mul_assoc]
          rw [← Nat.mul_mod, e4]
          unfold rt0
          rw [← Nat.pow_mod, ← Nat.pow_mul, Nat.mul_comm, RE_four.1, Nat.pow_add, Nat.mul_mod, h, Nat.one_mul, Nat.mod_mod, Nat.pow_succ, Nat.pow_one]
        have hl : rt0 a * rt0 a % P25 < P25 := Nat.mod_lt _ P25_pos
        rcases two_roots hl ha hx with h1 | h1
        · exact ⟨_, h1⟩
        · by_cases h0 : rt0 a * rt0 a % P25 = 0
          · omega
          · exact ⟨rt0 a * IM % P25, by rw [sq_IM, neg_of hl h0]; omega⟩
      · exact ⟨0, by rw [h]; rfl⟩
    · rintro ⟨z, rfl⟩
      by_cases hz : z % P25 = 0
      · right; rw [Nat.mul_mod, hz]; rfl
      · left
        rw [← Nat.pow_mod, show z * z = z ^ 2 by rw [Nat.pow_succ, Nat.pow_one], ← Nat.pow_mul, Nat.two_mul, half_two, ferm hz]
  rw [← Bool.decide_or]
  exact decide_eq_decide.2 (key.trans (rtq_iff a).symm)
end Go.Proofs.YtckdifcelgooeaaDoor
namespace Go.Proofs.YtckdifcelgooeaaDoor
theorem P25_big : 2 < P25 := by decide +kernel
instance zeroP : NeZero P25 := ⟨by decide +kernel⟩
abbrev Fp := Fin P25
def toF (n : Nat) : Fp := Fin.ofNat P25 n
theorem toF_val (n : Nat) : (toF n).val = n % P25 := rfl
theorem toF_eq {m n : Nat} : toF m = toF n ↔ m % P25 = n % P25 := ⟨fun h => congrArg Fin.val h, fun h => Fin.ext h⟩
theorem toF_self (x : Fp) : toF x.val = x := Fin.ext (Nat.mod_eq_of_lt x.isLt)
theorem toF_mod (n : Nat) : toF (n % P25) = toF n := toF_eq.2 (Nat.mod_mod _ _)
theorem toF_add (m n : Nat) : toF (m + n) = toF m + toF n := Fin.ext (by rw [Fin.val_add, toF_val, toF_val, toF_val, ← Nat.add_mod])
theorem toF_mul (m n : Nat) : toF (m * n) = toF m * toF n := Fin.ext (by rw [Fin.val_mul, toF_val, toF_val, toF_val, ← Nat.mul_mod])
theorem toF_zero : toF 0 = 0 := rfl
theorem toF_one : toF 1 = 1 := rfl
theorem toF_pow (m k : Nat) : toF (m ^ k) = toF m ^ k := by
  induction k with
  | zero => rfl
  | succ k ih => rw [Nat.pow_succ, toF_mul, ih]; grind
/-- No two numbers but 0 make 0. -/
theorem mul_zero' {x y : Fp} (h : x * y = 0) : x = 0 ∨ y = 0 := by
  have h1 : x.val * y.val % P25 = 0 := by have := congrArg Fin.val h; rwa [Fin.val_mul] at this
  rcases prP.mul (Nat.dvd_of_mod_eq_zero h1) with h2 | h2
  · exact .inl (Fin.ext ((Nat.mod_eq_of_lt x.isLt).symm.trans (Nat.mod_eq_zero_of_dvd h2)))
  · exact .inr (Fin.ext ((Nat.mod_eq_of_lt y.isLt).symm.trans (Nat.mod_eq_zero_of_dvd h2)))
theorem mul_ne {x y : Fp} (hx : x ≠ 0) (hy : y ≠ 0) : x * y ≠ 0 := fun h => (mul_zero' h).elim hx hy
theorem cancel {a x y : Fp} (ha : a ≠ 0) (h : a * x = a * y) : x = y := by
  have : a * (x - y) = 0 := by grind
  rcases mul_zero' this with h1 | h1
  · exact absurd h1 ha
  · grind
def inv (x : Fp) : Fp := toF (x.val ^ (P25 - 2))
theorem einv_mul {x : Fp} (hx : x ≠ 0) : x * inv x = 1 := by
  have h0 : x.val % P25 ≠ 0 := fun h => hx (Fin.ext ((Nat.mod_eq_of_lt x.isLt).symm.trans h))
  have h1 := prP.fermat fun hd => h0 (Nat.mod_eq_zero_of_dvd hd)
  have h2 : x.val * x.val ^ (P25 - 2) = x.val ^ (P25 - 1) := by
    have : P25 - 1 = (P25 - 2) + 1 := by have := P25_big; omega
    rw [this, Nat.pow_succ, Nat.mul_comm]
  unfold inv
  rw [← toF_self x, ← toF_mul, toF_self x, h2, ← toF_mod, h1]
  rfl
theorem two_ne : (2 : Fp) ≠ 0 := fun h => by
  have := congrArg Fin.val h
  revert this
  decide +kernel
section
variable (d i : Fp)
/-- A point. -/
def On (x y : Fp) : Prop := y * y - x * x = 1 + d * (x * x) * (y * y)
end
variable {d i : Fp}
/-- d is no square: what a sum is divided by is never 0. -/
theorem full {x1 y1 x2 y2 e : Fp} (hi : i * i = -1) (hd : ∀ s : Fp, s * s ≠ d) (h1 : On d x1 y1) (h2 : On d x2 y2) (he : e * e = 1) : d * x1 * x2 * y1 * y2 ≠ e := by
  intro h
  unfold On at h1 h2
  have hne : e ≠ 0 := fun h => by rw [h] at he; revert he; decide +kernel
  have hx1 : x1 ≠ 0 := fun h0 => hne (by rw [← h, h0]; grind)
  have hy1 : y1 ≠ 0 := fun h0 => hne (by rw [← h, h0]; grind)
  have hx2 : x2 ≠ 0 := fun h0 => hne (by rw [← h, h0]; grind)
  have hi0 : i ≠ 0 := fun h0 => by rw [h0] at hi; revert hi; decide +kernel
  have k1 : (y1 + e * i * x1) * (y1 + e * i * x1) = d * ((x1 * y1 * (y2 + i * x2)) * (x1 * y1 * (y2 + i * x2))) := by grind
  have k2 : (y1 - e * i * x1) * (y1 - e * i * x1) = d * ((x1 * y1 * (y2 - i * x2)) * (x1 * y1 * (y2 - i * x2))) := by grind
  have key : ∀ a b : Fp, b ≠ 0 → a * a = d * (b * b) → False := fun a b hb hab => by
    have hI := einv_mul hb
    exact hd (a * inv b) (by grind)
  by_cases h0 : y2 + i * x2 = 0
  · refine key _ _ (mul_ne (mul_ne hx1 hy1) ?_) k2
    intro h3
    have : 2 * (i * x2) = 0 := by grind
    rcases mul_zero' this with h4 | h4
    · exact two_ne h4
    · rcases mul_zero' h4 with h5 | h5
      · exact hi0 h5
      · exact hx2 h5
  · exact key _ _ (mul_ne (mul_ne hx1 hy1) h0) k1
end Go.Proofs.YtckdifcelgooeaaDoor
namespace Go.Proofs.YtckdifcelgooeaaDoor
/-- A curve: d no square, -1 a square. -/
structure Cv where
  d : Fp
  i : Fp
  sq : i * i = -1
  no : ∀ s : Fp, s * s ≠ d
structure Pt (C : Cv) where
  x : Fp
  y : Fp
  on : On C.d x y
variable {C : Cv}
theorem Pt.ext' {p q : Pt C} (hx : p.x = q.x) (hy : p.y = q.y) : p = q := by
  cases p; cases q; simp at hx hy; subst hx hy; rfl
def dt (d x1 y1 x2 y2 : Fp) : Fp := d * x1 * x2 * y1 * y2
theorem dp_ne (p q : Pt C) : 1 + dt C.d p.x p.y q.x q.y ≠ 0 := fun h => full (e := -1) C.sq C.no p.on q.on (by grind) (by unfold dt at h; grind)
theorem dm_ne (p q : Pt C) : 1 - dt C.d p.x p.y q.x q.y ≠ 0 := fun h => full (e := 1) C.sq C.no p.on q.on (by grind) (by unfold dt at h; grind)
def sx (d x1 y1 x2 y2 : Fp) : Fp := (x1 * y2 + y1 * x2) * inv (1 + dt d x1 y1 x2 y2)
def sy (d x1 y1 x2 y2 : Fp) : Fp := (y1 * y2 + x1 * x2) * inv (1 - dt d x1 y1 x2 y2)
theorem sx_mul (p q : Pt C) : sx C.d p.x p.y q.x q.y * (1 + dt C.d p.x p.y q.x q.y) = p.x * q.y + p.y * q.x := by
  have h := einv_mul (dp_ne p q)
  unfold sx
  generalize inv (1 + dt C.d p.x p.y q.x q.y) = j at *
  grind
theorem sy_mul (p q : Pt C) : sy C.d p.x p.y q.x q.y * (1 - dt C.d p.x p.y q.x q.y) = p.y * q.y + p.x * q.x := by
  have h := einv_mul (dm_ne p q)
  unfold sy
  generalize inv (1 - dt C.d p.x p.y q.x q.y) = j at *
  grind
theorem on_sum {d x1 y1 x2 y2 A B X Y : Fp} (h1 : On d x1 y1) (h2 : On d x2 y2) (hA : A = 1 + dt d x1 y1 x2 y2) (hB : B = 1 - dt d x1 y1 x2 y2) (hX : X = x1 * y2 + y1 * x2) (hY : Y = y1 * y2 + x1 * x2) :
    (Y * Y) * (A * A) - (X * X) * (B * B) = (A * A) * (B * B) + d * (X * X) * (Y * Y) := by
  unfold On at h1 h2
  unfold dt at hA hB
  subst hA hB hX hY
  grind
theorem on_add (p q : Pt C) : On C.d (sx C.d p.x p.y q.x q.y) (sy C.d p.x p.y q.x q.y) := by
  have hA := dp_ne p q
  have hB := dm_ne p q
  have h := on_sum p.on q.on rfl rfl rfl rfl
  rw [← sx_mul p q, ← sy_mul p q] at h
  generalize sx C.d p.x p.y q.x q.y = X at *
  generalize sy C.d p.x p.y q.x q.y = Y at *
  generalize 1 + dt C.d p.x p.y q.x q.y = A at *
  generalize 1 - dt C.d p.x p.y q.x q.y = B at *
  unfold On
  refine cancel (mul_ne (mul_ne hA hA) (mul_ne hB hB)) ?_
  grind
def Pt.add (p q : Pt C) : Pt C := ⟨sx C.d p.x p.y q.x q.y, sy C.d p.x p.y q.x q.y, on_add p q⟩
def Pt.nought (C : Cv) : Pt C := ⟨0, 1, by unfold On; grind⟩
def Pt.neg (p : Pt C) : Pt C := ⟨-p.x, p.y, by have := p.on; unfold On at *; grind⟩
/-- A sum is known by its two products. -/
theorem Pt.add_is (p q r : Pt C) (hx : r.x * (1 + dt C.d p.x p.y q.x q.y) = p.x * q.y + p.y * q.x) (hy : r.y * (1 - dt C.d p.x p.y q.x q.y) = p.y * q.y + p.x * q.x) : p.add q = r := by
  have h1 := sx_mul p q
  have h2 := sy_mul p q
  refine Pt.ext' (cancel (dp_ne p q) ?_) (cancel (dm_ne p q) ?_)
  · show _ * sx C.d p.x p.y q.x q.y = _; grind
  · show _ * sy C.d p.x p.y q.x q.y = _; grind
theorem Pt.comm (p q : Pt C) : p.add q = q.add p := by
  refine Pt.add_is p q _ ?_ ?_
  · have h := sx_mul q p
    show sx C.d q.x q.y p.x p.y * _ = _
    unfold dt at *
    grind
  · have h := sy_mul q p
    show sy C.d q.x q.y p.x p.y * _ = _
    unfold dt at *
    grind
theorem Pt.add_nought (p : Pt C) : p.add (Pt.nought C) = p := by
  refine Pt.add_is p _ _ ?_ ?_ <;> (unfold Pt.nought dt; simp only []; grind)
theorem Pt.add_neg (p : Pt C) : p.add p.neg = Pt.nought C := by
  have h := p.on
  unfold On at h
  refine Pt.add_is p _ _ ?_ ?_ <;> (unfold Pt.nought Pt.neg dt; simp only []; grind)
theorem assoc_x {d x1 y1 x2 y2 x3 y3 : Fp} (h1 : On d x1 y1) (h2 : On d x2 y2) (h3 : On d x3 y3) :
    ((x1*y2+y1*x2)*(1-dt d x1 y1 x2 y2)*y3 + (y1*y2+x1*x2)*(1+dt d x1 y1 x2 y2)*x3) * ((1-dt d x2 y2 x3 y3)*(1+dt d x2 y2 x3 y3) + d*(x2*y3+y2*x3)*(y2*y3+x2*x3)*x1*y1)
    = ((x2*y3+y2*x3)*(1-dt d x2 y2 x3 y3)*y1 + (y2*y3+x2*x3)*(1+dt d x2 y2 x3 y3)*x1) * ((1-dt d x1 y1 x2 y2)*(1+dt d x1 y1 x2 y2) + d*(x1*y2+y1*x2)*(y1*y2+x1*x2)*x3*y3) := by
  unfold On at h1 h2 h3
  unfold dt
  grind
theorem assoc_y {d x1 y1 x2 y2 x3 y3 : Fp} (h1 : On d x1 y1) (h2 : On d x2 y2) (h3 : On d x3 y3) :
    ((y1*y2+x1*x2)*(1+dt d x1 y1 x2 y2)*y3 + (x1*y2+y1*x2)*(1-dt d x1 y1 x2 y2)*x3) * ((1-dt d x2 y2 x3 y3)*(1+dt d x2 y2 x3 y3) - d*(x2*y3+y2*x3)*(y2*y3+x2*x3)*x1*y1)
    = ((y2*y3+x2*x3)*(1+dt d x2 y2 x3 y3)*y1 + (x2*y3+y2*x3)*(1-dt d x2 y2 x3 y3)*x1) * ((1-dt d x1 y1 x2 y2)*(1+dt d x1 y1 x2 y2) - d*(x1*y2+y1*x2)*(y1*y2+x1*x2)*x3*y3) := by
  unfold On at h1 h2 h3
  unfold dt
  grind
/-- (p + q) + r, in one fraction. -/
theorem two_sum_x (p q r : Pt C) : ((p.add q).add r).x * ((1-dt C.d p.x p.y q.x q.y)*(1+dt C.d p.x p.y q.x q.y) + C.d*(p.x*q.y+p.y*q.x)*(p.y*q.y+p.x*q.x)*r.x*r.y)
    = (p.x*q.y+p.y*q.x)*(1-dt C.d p.x p.y q.x q.y)*r.y + (p.y*q.y+p.x*q.x)*(1+dt C.d p.x p.y q.x q.y)*r.x := by
  have h1 := sx_mul p q
  have h2 := sy_mul p q
  have h3 := sx_mul (p.add q) r
  have e1 : (p.add q).x = sx C.d p.x p.y q.x q.y := rfl
  have e2 : (p.add q).y = sy C.d p.x p.y q.x q.y := rfl
  show sx C.d (p.add q).x (p.add q).y r.x r.y * _ = _
  rw [e1, e2] at h3 ⊢
  rw [← h1, ← h2]
  generalize sx C.d p.x p.y q.x q.y = X at *
  generalize sy C.d p.x p.y q.x q.y = Y at *
  generalize 1 + dt C.d p.x p.y q.x q.y = A at *
  generalize 1 - dt C.d p.x p.y q.x q.y = B at *
  generalize sx C.d X Y r.x r.y = Z at *
  unfold dt at h3
  grind
theorem two_sum_y (p q r : Pt C) : ((p.add q).add r).y * ((1-dt C.d p.x p.y q.x q.y)*(1+dt C.d p.x p.y q.x q.y) - C.d*(p.x*q.y+p.y*q.x)*(p.y*q.y+p.x*q.x)*r.x*r.y)
    = (p.y*q.y+p.x*q.x)*(1+dt C.d p.x p.y q.x q.y)*r.y + (p.x*q.y+p.y*q.x)*(1-dt C.d p.x p.y q.x q.y)*r.x := by
  have h1 := sx_mul p q
  have h2 := sy_mul p q
  have h3 := sy_mul (p.add q) r
  have e1 : (p.add q).x = sx C.d p.x p.y q.x q.y := rfl
  have e2 : (p.add q).y = sy C.d p.x p.y q.x q.y := rfl
  show sy C.d (p.add q).x (p.add q).y r.x r.y * _ = _
  rw [e1, e2] at h3 ⊢
  rw [← h1, ← h2]
  generalize sx C.d p.x p.y q.x q.y = X at *
  generalize sy C.d p.x p.y q.x q.y = Y at *
  generalize 1 + dt C.d p.x p.y q.x q.y = A at *
  generalize 1 - dt C.d p.x p.y q.x q.y = B at *
  generalize sy C.d X Y r.x r.y = Z at *
  unfold dt at h3
  grind
theorem den_x (p q r : Pt C) : (1-dt C.d p.x p.y q.x q.y)*(1+dt C.d p.x p.y q.x q.y) + C.d*(p.x*q.y+p.y*q.x)*(p.y*q.y+p.x*q.x)*r.x*r.y ≠ 0 := by
  have h1 := sx_mul p q
  have h2 := sy_mul p q
  have h := mul_ne (mul_ne (dm_ne p q) (dp_ne p q)) (dp_ne (p.add q) r)
  have e1 : (p.add q).x = sx C.d p.x p.y q.x q.y := rfl
  have e2 : (p.add q).y = sy C.d p.x p.y q.x q.y := rfl
  rw [e1, e2] at h
  rw [← h1, ← h2]
  generalize sx C.d p.x p.y q.x q.y = X at *
  generalize sy C.d p.x p.y q.x q.y = Y at *
  generalize 1 + dt C.d p.x p.y q.x q.y = A at *
  generalize 1 - dt C.d p.x p.y q.x q.y = B at *
  unfold dt at h
  intro h0
  apply h
  grind
theorem den_y (p q r : Pt C) : (1-dt C.d p.x p.y q.x q.y)*(1+dt C.d p.x p.y q.x q.y) - C.d*(p.x*q.y+p.y*q.x)*(p.y*q.y+p.x*q.x)*r.x*r.y ≠ 0 := by
  have h1 := sx_mul p q
  have h2 := sy_mul p q
  have h := mul_ne (mul_ne (dm_ne p q) (dp_ne p q)) (dm_ne (p.add q) r)
  have e1 : (p.add q).x = sx C.d p.x p.y q.x q.y := rfl
  have e2 : (p.add q).y = sy C.d p.x p.y q.x q.y := rfl
  rw [e1, e2] at h
  rw [← h1, ← h2]
  generalize sx C.d p.x p.y q.x q.y = X at *
  generalize sy C.d p.x p.y q.x q.y = Y at *
  generalize 1 + dt C.d p.x p.y q.x q.y = A at *
  generalize 1 - dt C.d p.x p.y q.x q.y = B at *
  unfold dt at h
  intro h0
  apply h
  grind
theorem swap2 {a b e f : Fp} (h : a * e * f = b * f * e) : e * f * a = e * f * b := by grind
theorem Pt.assoc (p q r : Pt C) : (p.add q).add r = p.add (q.add r) := by
  have hl := two_sum_x p q r
  have hr := two_sum_x q r p
  have hl' := two_sum_y p q r
  have hr' := two_sum_y q r p
  rw [Pt.comm (q.add r) p] at hr hr'
  have hA := assoc_x p.on q.on r.on
  have hB := assoc_y p.on q.on r.on
  have n1 := den_x p q r
  have n2 := den_x q r p
  have n3 := den_y p q r
  have n4 := den_y q r p
  rw [← hl, ← hr] at hA
  rw [← hl', ← hr'] at hB
  exact Pt.ext' (cancel (mul_ne n1 n2) (swap2 hA)) (cancel (mul_ne n3 n4) (swap2 hB))
/-- A point so many times. -/
def Pt.mul (p : Pt C) : Nat → Pt C
  | 0 => Pt.nought C
  | n + 1 => (p.mul n).add p
theorem Pt.nought_add (p : Pt C) : (Pt.nought C).add p = p := by rw [Pt.comm, Pt.add_nought]
theorem Pt.mul_add (p : Pt C) (m : Nat) : ∀ n, p.mul (m + n) = (p.mul m).add (p.mul n)
  | 0 => (Pt.add_nought _).symm
  | n + 1 => by
    show (p.mul (m + n)).add p = (p.mul m).add ((p.mul n).add p)
    rw [Pt.mul_add p m n, Pt.assoc]
theorem Pt.mul_mul (p : Pt C) (m : Nat) : ∀ n, (p.mul m).mul n = p.mul (m * n)
  | 0 => rfl
  | n + 1 => by
    show ((p.mul m).mul n).add (p.mul m) = p.mul (m * n + m)
    rw [Pt.mul_mul p m n, Pt.mul_add]
theorem Pt.mul_one (p : Pt C) : p.mul 1 = p := Pt.nought_add p
theorem Pt.mul_nought : ∀ n, (Pt.nought C).mul n = Pt.nought C
  | 0 => rfl
  | n + 1 => by show ((Pt.nought C).mul n).add (Pt.nought C) = _; rw [Pt.mul_nought n, Pt.add_nought]
theorem Pt.mul_two (p : Pt C) (n : Nat) : p.mul (2 * n) = (p.mul n).add (p.mul n) := by rw [Nat.two_mul, Pt.mul_add]
/-- What is added is taken off again. -/
theorem Pt.add_cancel {p q r : Pt C} (h : p.add r = q.add r) : p = q := by
  have : (p.add r).add r.neg = (q.add r).add r.neg := by rw [h]
  rwa [Pt.assoc, Pt.assoc, Pt.add_neg, Pt.add_nought, Pt.add_nought] at this
/-- Of a point whose order divides L, multiples hang on what is left. -/
theorem Pt.mul_mod {p : Pt C} {L : Nat} (h : p.mul L = Pt.nought C) (n : Nat) : p.mul n = p.mul (n % L) := by
  conv => lhs; rw [← Nat.mod_add_div n L]
  rw [Pt.mul_add, ← Pt.mul_mul, h, Pt.mul_nought, Pt.add_nought]
end Go.Proofs.YtckdifcelgooeaaDoor
namespace Go.Proofs.YtckdifcelgooeaaDoor
def ed : Nat := 37095705934669439343138083508754565189542113879843219016388785533085940283555
def ei : Nat := 19681161376707505956807079304988542015446066515923890162744021073123829784752
theorem ei_sq : ei * ei % P25 = P25 - 1 := by decide +kernel
theorem ed_no : pm P25 256 ed ((P25 - 1) / 2) = P25 - 1 := by decide +kernel
theorem half2 : 2 * ((P25 - 1) / 2) = P25 - 1 := by decide +kernel
theorem neg_one : toF (P25 - 1) = -1 := by decide +kernel
theorem half_small : (P25 - 1) / 2 < 2 ^ 256 := by decide +kernel
theorem half_ne : (P25 - 1) / 2 ≠ 0 := by decide +kernel
theorem pow_zero' {z : Fp} (hz : z = 0) : ∀ k : Nat, k ≠ 0 → z ^ k = 0
  | 0, h => absurd rfl h
  | k + 1, _ => by
    have : z ^ (k + 1) = z ^ k * z := by grind
    rw [this, hz]
    grind
theorem no_sq (dd : Nat) (h : pm P25 256 dd ((P25 - 1) / 2) = P25 - 1) (s : Fp) : s * s ≠ toF dd := by
  intro hs
  rw [pm_eq P25 256 dd _ half_small] at h
  have h1 : toF (dd ^ ((P25 - 1) / 2)) = -1 := by rw [← toF_mod, h, neg_one]
  have h2 : toF (dd ^ ((P25 - 1) / 2)) = toF (s.val ^ (P25 - 1)) := by
    rw [toF_pow, ← hs, ← toF_self s, ← toF_mul, ← toF_pow, toF_self, show s.val * s.val = s.val ^ 2 by rw [Nat.pow_succ, Nat.pow_one], ← Nat.pow_mul, half2]
  by_cases h0 : s = 0
  · have hz : toF dd = 0 := by rw [← hs, h0]; grind
    have h3 : toF (dd ^ ((P25 - 1) / 2)) = 0 := by rw [toF_pow]; exact pow_zero' hz _ half_ne
    rw [h1] at h3
    revert h3
    decide +kernel
  · have h0' : s.val % P25 ≠ 0 := fun h => h0 (Fin.ext ((Nat.mod_eq_of_lt s.isLt).symm.trans h))
    have h4 := prP.fermat fun hd => h0' (Nat.mod_eq_zero_of_dvd hd)
    have h5 : toF (s.val ^ (P25 - 1)) = 1 := by rw [← toF_mod, h4]; rfl
    rw [h2, h5] at h1
    revert h1
    decide +kernel
/-- The curve. -/
def E25 : Cv := ⟨toF ed, toF ei, by rw [← toF_mul, ← toF_mod, ei_sq, neg_one], no_sq ed ed_no⟩
def bx : Nat := 15112221349535400772501151409588531511454012693041857206046113283949847762202
def by_ : Nat := 46316835694926478169428394003475163141307993866256225615783033603165251855960
theorem base_on : On E25.d (toF bx) (toF by_) := by unfold On; decide +kernel
def B25 : Pt E25 := ⟨toF bx, toF by_, base_on⟩
/-! Three numbers a point: x over z, y over z. -/
structure Tr where
  x : Nat
  y : Nat
  z : Nat
def Tr.of {C : Cv} (t : Tr) (p : Pt C) : Prop := toF t.z ≠ 0 ∧ toF t.x = p.x * toF t.z ∧ toF t.y = p.y * toF t.z
/-- The sum, as the document tells it: by the curve's number. -/
def Tr.plus (dd : Nat) (p q : Tr) : Tr :=
  let a := p.z * q.z % P25
  let b := a * a % P25
  let xx := p.x * q.x % P25
  let yy := p.y * q.y % P25
  let xy := (p.x * q.y % P25 + p.y * q.x % P25) % P25
  let e := dd * (xx * yy % P25) % P25
  let low := (b + (P25 - e)) % P25
  let high := (b + e) % P25
  ⟨a * (low * xy % P25) % P25, a * (high * ((yy + xx) % P25) % P25) % P25, low * high % P25⟩
theorem toF_sub {m n : Nat} (h : n ≤ P25) : toF (m + (P25 - n)) = toF m - toF n := by
  have : toF (m + (P25 - n)) + toF n = toF m := by
    rw [← toF_add, show m + (P25 - n) + n = m + P25 by omega, ← toF_mod (m + P25), Nat.add_mod_right, toF_mod]
  grind
theorem Tr.plus_of {C : Cv} {dd : Nat} (hd : C.d = toF dd) {s t : Tr} {p q : Pt C} (hs : s.of p) (ht : t.of q) : (Tr.plus dd s t).of (p.add q) := by
  obtain ⟨z1, x1, y1⟩ := hs
  obtain ⟨z2, x2, y2⟩ := ht
  have h1 := sx_mul p q
  have h2 := sy_mul p q
  have n1 := dp_ne p q
  have n2 := dm_ne p q
  have e1 : (p.add q).x = sx C.d p.x p.y q.x q.y := rfl
  have e2 : (p.add q).y = sy C.d p.x p.y q.x q.y := rfl
  unfold Tr.of Tr.plus
  simp only []
  have hl : dd * (s.x * t.x % P25 * (s.y * t.y % P25) % P25) % P25 ≤ P25 := Nat.le_of_lt (Nat.mod_lt _ (by decide +kernel))
  simp only [toF_mod, toF_mul, toF_sub hl, toF_add]
  rw [e1, e2, ← hd, x1, y1, x2, y2]
  generalize sx C.d p.x p.y q.x q.y = X at *
  generalize sy C.d p.x p.y q.x q.y = Y at *
  generalize toF s.z = u at *
  generalize toF t.z = v at *
  have k1 : u * v * (u * v) - C.d * (p.x * u * (q.x * v) * (p.y * u * (q.y * v))) = u * v * (u * v) * (1 - dt C.d p.x p.y q.x q.y) := by unfold dt; grind
  have k2 : u * v * (u * v) + C.d * (p.x * u * (q.x * v) * (p.y * u * (q.y * v))) = u * v * (u * v) * (1 + dt C.d p.x p.y q.x q.y) := by unfold dt; grind
  rw [k1, k2]
  generalize 1 + dt C.d p.x p.y q.x q.y = A at *
  generalize 1 - dt C.d p.x p.y q.x q.y = B at *
  have huv : u * v * (u * v) ≠ 0 := mul_ne (mul_ne z1 z2) (mul_ne z1 z2)
  refine ⟨mul_ne (mul_ne huv n2) (mul_ne huv n1), ?_, ?_⟩
  · clear e1 e2 hl k1 k2 x1 x2 y1 y2
    grind
  · clear e1 e2 hl k1 k2 x1 x2 y1 y2
    grind
/-- So many times, from the highest bit. -/
def Tr.times (dd : Nat) (p : Tr) (n : Nat) : Nat → Tr
  | 0 => ⟨0, 1, 1⟩
  | k + 1 =>
    let q := Tr.times dd p (n / 2) k
    let t := Tr.plus dd q q
    if n % 2 = 1 then Tr.plus dd t p else t
theorem Tr.nought_of (C : Cv) : (⟨0, 1, 1⟩ : Tr).of (Pt.nought C) := by
  unfold Tr.of Pt.nought
  simp only []
  refine ⟨by decide +kernel, ?_, ?_⟩
  · decide +kernel
  · decide +kernel
theorem Tr.times_of {C : Cv} {dd : Nat} (hd : C.d = toF dd) {s : Tr} {p : Pt C} (hs : s.of p) : ∀ (k n : Nat), n < 2 ^ k → (Tr.times dd s n k).of (p.mul n)
  | 0, n, h => by
    have : n = 0 := by simpa using h
    subst this
    exact Tr.nought_of C
  | k + 1, n, h => by
    have ih := Tr.times_of hd hs k (n / 2) (by rw [Nat.pow_succ] at h; omega)
    have h2 := Tr.plus_of hd ih ih
    rw [← Pt.mul_two] at h2
    unfold Tr.times
    simp only []
    by_cases hn : n % 2 = 1
    · rw [if_pos hn]
      have h3 := Tr.plus_of hd h2 hs
      have e : n = 2 * (n / 2) + 1 := by omega
      conv => rhs; rw [e]
      exact h3
    · rw [if_neg hn]
      have e : n = 2 * (n / 2) := by omega
      conv => rhs; rw [e]
      exact h2
def LB : Nat := 7237005577332262213973186563042994240857116359379907606001950938285454250989
def endB : Tr := Tr.times ed ⟨bx, by_, 1⟩ LB 256
theorem end_B : endB.x = 0 ∧ endB.y = endB.z := by decide +kernel
theorem base_order : B25.mul LB = Pt.nought E25 := by
  have hB : (⟨bx, by_, 1⟩ : Tr).of B25 := by
    refine ⟨?_, ?_, ?_⟩
    · decide +kernel
    · show toF bx = toF bx * 1; grind
    · show toF by_ = toF by_ * 1; grind
  have h := Tr.times_of (C := E25) (dd := ed) rfl hB 256 LB (by decide +kernel)
  obtain ⟨hz, hx, hy⟩ := h
  obtain ⟨g1, g2⟩ := end_B
  change toF endB.z ≠ 0 at hz
  change toF endB.x = _ * toF endB.z at hx
  change toF endB.y = _ * toF endB.z at hy
  rw [g1] at hx
  rw [g2] at hy
  generalize toF endB.z = z at *
  refine Pt.ext' (cancel hz ?_) (cancel hz ?_)
  · show _ = z * 0
    rw [toF_zero] at hx
    grind
  · show _ = z * 1
    grind
end Go.Proofs.YtckdifcelgooeaaDoor
namespace Go.Proofs.YtckdifcelgooeaaDoor
variable {C : Cv}
/-- (X : Z) stands for a point: (1 + y : 1 - y). -/
def Ms (X Z : Fp) (p : Pt C) : Prop := X * (1 - p.y) = Z * (1 + p.y) ∧ (X ≠ 0 ∨ Z ≠ 0)
theorem half_mul : inv 2 * 2 = (1 : Fp) := by have := einv_mul two_ne; grind
theorem Ms.lam {X Z : Fp} {p : Pt C} (h : Ms X Z p) : ∃ l, l ≠ 0 ∧ X = l * (1 + p.y) ∧ Z = l * (1 - p.y) := by
  obtain ⟨h1, h2⟩ := h
  have h3 := half_mul
  generalize inv 2 = j at h3
  have e1 : X = (X + Z) * j * (1 + p.y) := by generalize p.y = y at *; grind
  have e2 : Z = (X + Z) * j * (1 - p.y) := by generalize p.y = y at *; grind
  refine ⟨(X + Z) * j, fun h0 => ?_, e1, e2⟩
  rw [h0] at e1 e2
  rcases h2 with h2 | h2
  · apply h2; grind
  · apply h2; grind
theorem c6_ne : (121666 : Fp) ≠ 0 := by decide +kernel
theorem c6_of : (121666 : Fp) = (1 - 0 * 0) * (1 + 121665 * (1 - 0 * 0)) := by decide +kernel
theorem two_sum {v : Fp} : (2 : Fp) = (1 - v) + (1 + v) := by grind
theorem two_of {v : Fp} (h : 1 - v = 0) (h' : 1 + v = 0) : (2 : Fp) = 0 := by rw [two_sum (v := v), h, h']; rfl
theorem fr_minus {w S N : Fp} (h : w * S = N) : S * (1 - w) = S - N := by grind
theorem fr_plus {w S N : Fp} (h : w * S = N) : S * (1 + w) = S + N := by grind
theorem neg_den {d x1 x2 y1 y2 : Fp} : 1 - d * x2 * -x1 * y2 * y1 = 1 + d * x1 * x2 * y1 * y2 := by grind
theorem neg_num {x1 x2 y1 y2 : Fp} : y2 * y1 + x2 * -x1 = y1 * y2 - x1 * x2 := by grind
theorem diff_add {d x1 y1 x2 y2 : Fp} (o1 : On d x1 y1) (o2 : On d x2 y2) : (y1 + y2) * (y1 + y2) * ((1 - d * x1 * x2 * y1 * y2) - (y1 * y2 + x1 * x2)) * ((1 + d * x1 * x2 * y1 * y2) - (y1 * y2 - x1 * x2)) = (y2 - y1) * (y2 - y1) * ((1 - d * x1 * x2 * y1 * y2) + (y1 * y2 + x1 * x2)) * ((1 + d * x1 * x2 * y1 * y2) + (y1 * y2 - x1 * x2)) := by
  unfold On at o1 o2
  grind
theorem fin_add {k y1 y2 S R v w U : Fp} (g : (y1 + y2) * (y1 + y2) * (S * (1 - w)) * (R * (1 - v)) = (y2 - y1) * (y2 - y1) * (S * (1 + w)) * (R * (1 + v))) (hU : U * (1 - v) = 1 + v) :
    (1 - v) * (S * R) * (k * (y2 + y1) * (k * (y2 + y1)) * (1 - w)) = (1 - v) * (S * R) * (U * (k * (y2 - y1) * (k * (y2 - y1))) * (1 + w)) := by grind
theorem c16_ne : (16 : Fp) ≠ 0 := by decide +kernel
theorem Ms.dbl {X Z : Fp} {p : Pt C} (hd : C.d * 121666 = -121665) (h : Ms X Z p) (aa bb e : Fp) (haa : aa = (X + Z) * (X + Z)) (hbb : bb = (X - Z) * (X - Z)) (he : e = aa - bb) :
    Ms (aa * bb) (e * (aa + 121665 * e)) (p.add p) := by
  obtain ⟨l, hl, rfl, rfl⟩ := h.lam
  have h1 := p.on
  have h2 := sy_mul p p
  have h3 := dm_ne p p
  have e1 : (p.add p).y = sy C.d p.x p.y p.x p.y := rfl
  have hx : aa * bb = 16 * (l * l) * (l * l) * (p.y * p.y) := by subst haa hbb; generalize p.y = y; grind
  have hz : e * (aa + 121665 * e) = 16 * (l * l) * (l * l) * ((1 - p.y * p.y) * (1 + 121665 * (1 - p.y * p.y))) := by subst he haa hbb; generalize p.y = y; grind
  have hll : 16 * (l * l) * (l * l) ≠ 0 := mul_ne (mul_ne c16_ne (mul_ne hl hl)) (mul_ne hl hl)
  rw [hx, hz]
  generalize 16 * (l * l) * (l * l) = m at *
  refine ⟨?_, ?_⟩
  · rw [e1]
    generalize sy C.d p.x p.y p.x p.y = w at *
    unfold On at h1
    unfold dt at h2 h3
    refine cancel (mul_ne h3 c6_ne) ?_
    clear hx hz e1 hll h haa hbb he hl h3
    generalize p.x = x at *
    generalize p.y = y at *
    generalize C.d = d at *
    have k : (1 - d * x * x * y * y) * (1 - w) = 2 - 2 * (y * y) := by grind
    have k' : (1 - d * x * x * y * y) * (1 + w) = 2 + 2 * (x * x) := by grind
    have g : 121666 * (y * y) * (2 - 2 * (y * y)) = 121666 * ((1 - y * y) * (1 + 121665 * (1 - y * y))) * (2 + 2 * (x * x)) := by grind
    grind
  · by_cases hy : p.y = 0
    · right
      rw [hy]
      refine mul_ne hll ?_
      exact fun h0 => c6_ne (c6_of.trans h0)
    · left
      exact mul_ne hll (mul_ne hy hy)
theorem Ms.add {X2 Z2 X3 Z3 U : Fp} {p q r : Pt C} (h2 : Ms X2 Z2 p) (h3 : Ms X3 Z3 q) (hq : q = p.add r) (hU : U * (1 - r.y) = 1 + r.y) (hU0 : U ≠ 0) (hn : p.y ≠ 0 ∨ q.y ≠ 0) (da cb : Fp) (hda : da = (X3 - Z3) * (X2 + Z2)) (hcb : cb = (X3 + Z3) * (X2 - Z2)) :
    Ms ((da + cb) * (da + cb)) (U * ((da - cb) * (da - cb))) (p.add q) := by
  obtain ⟨l, hl, rfl, rfl⟩ := h2.lam
  obtain ⟨m, hm, rfl, rfl⟩ := h3.lam
  have o1 := p.on
  have o2 := q.on
  have hs := sy_mul p q
  have hsn := dm_ne p q
  have e1 : (p.add q).y = sy C.d p.x p.y q.x q.y := rfl
  have hr : r = q.add p.neg := by rw [hq, Pt.comm p r, Pt.assoc, Pt.add_neg, Pt.add_nought]
  have hr2 := sy_mul q p.neg
  have hrn := dm_ne q p.neg
  have e2 : r.y = sy C.d q.x q.y p.neg.x p.neg.y := by rw [hr]; rfl
  have e3 : p.neg.x = -p.x := rfl
  have e4 : p.neg.y = p.y := rfl
  rw [← e2, e3, e4] at hr2
  rw [e3, e4] at hrn
  clear e2 e3 e4 hr hq h2 h3
  have h4 : (4 : Fp) ≠ 0 := by decide +kernel
  have hx : da + cb = 4 * (l * m) * (q.y + p.y) := by subst hda hcb; generalize p.y = y1; generalize q.y = y2; grind
  have hz : da - cb = 4 * (l * m) * (q.y - p.y) := by subst hda hcb; generalize p.y = y1; generalize q.y = y2; grind
  have hlm : 4 * (l * m) ≠ 0 := mul_ne h4 (mul_ne hl hm)
  rw [hx, hz]
  clear hx hz hda hcb
  generalize 4 * (l * m) = k at *
  unfold dt at hs hsn hr2 hrn
  rw [neg_den, neg_num] at hr2
  rw [neg_den] at hrn
  refine ⟨?_, ?_⟩
  · rw [e1]
    by_cases hv : 1 - r.y = 0
    · exact absurd (two_of hv (by rw [← hU, hv]; exact Fin.mul_zero U)) two_ne
    · refine cancel (mul_ne hv (mul_ne hsn hrn)) (fin_add ?_ hU)
      rw [fr_minus hs, fr_plus hs, fr_minus hr2, fr_plus hr2]
      exact diff_add o1 o2
  · by_cases h0 : q.y + p.y = 0
    · right
      refine mul_ne hU0 (mul_ne (mul_ne hlm ?_) (mul_ne hlm ?_)) <;>
      · intro h1
        have h2 : 2 * q.y = 0 := by generalize p.y = y1 at *; generalize q.y = y2 at *; grind
        rcases mul_zero' h2 with h3 | h3
        · exact two_ne h3
        · rcases hn with h5 | h5
          · apply h5; rw [h3] at h1; generalize p.y = y1 at *; grind
          · exact h5 h3
    · left
      exact mul_ne (mul_ne hlm h0) (mul_ne hlm h0)
/-- The state of the ladder, one step, and all steps from the highest bit on. -/
structure St where
  x2 : Fp
  z2 : Fp
  x3 : Fp
  z3 : Fp
def St.swap (b : Bool) (s : St) : St := if b then ⟨s.x3, s.z3, s.x2, s.z2⟩ else s
def St.step (u : Fp) (s : St) : St :=
  let a := s.x2 + s.z2
  let b := s.x2 - s.z2
  let da := (s.x3 - s.z3) * a
  let cb := (s.x3 + s.z3) * b
  let aa := a * a
  let bb := b * b
  let e := aa - bb
  ⟨aa * bb, e * (aa + 121665 * e), (da + cb) * (da + cb), u * ((da - cb) * (da - cb))⟩
def kbit (k n : Nat) : Bool := decide (k / 2 ^ n % 2 = 1)
def lad (u : Fp) (k : Nat) : Nat → St
  | 0 => ⟨1, 0, u, 1⟩
  | n + 1 => ((((lad u k n).swap (kbit k (254 - n))).step u).swap (kbit k (254 - n)))
def ladder (u : Fp) (k : Nat) : Fp := (lad u k 255).x2 * inv (lad u k 255).z2
/-- What stands for a point. -/
def uo (p : Pt C) : Fp := (1 + p.y) * inv (1 - p.y)
/-- A point of odd order is nought, if four times it is. -/
theorem odd_four {p : Pt C} {L : Nat} (hL : L % 2 = 1) (h : p.mul L = Pt.nought C) (m : Nat) (h4 : p.mul (4 * m) = Pt.nought C) : p.mul m = Pt.nought C := by
  have key : ∃ a b : Nat, 4 * a = 1 + L * b := by
    have : L % 4 = 1 ∨ L % 4 = 3 := by omega
    rcases this with h1 | h1
    · exact ⟨(1 + L * 3) / 4, 3, by omega⟩
    · exact ⟨(1 + L) / 4, 1, by omega⟩
  obtain ⟨a, b, hab⟩ := key
  have e1 : p.mul (4 * m * a) = Pt.nought C := by rw [← Pt.mul_mul, h4, Pt.mul_nought]
  have e2 : 4 * m * a = m + L * (b * m) := by
    have : 4 * m * a = m * (4 * a) := by rw [Nat.mul_comm 4 m, Nat.mul_assoc]
    rw [this, hab, Nat.mul_add, Nat.mul_one, Nat.mul_left_comm, Nat.mul_comm m b]
  rw [e2, Pt.mul_add, ← Pt.mul_mul p L, h, Pt.mul_nought, Pt.add_nought] at e1
  exact e1
theorem on_two {d z m : Fp} (hz : z = 0) (hm : m = -1) : m * m - z * z = 1 + d * (z * z) * (m * m) := by grind
theorem y4_1 {x y A z : Fp} (hy : y = 0) (hz : z = 0) : z * A = x * y + y * x := by grind
theorem y4_2 {d x y m : Fp} (h : y * y - x * x = 1 + d * (x * x) * (y * y)) (hy : y = 0) (hm : m = -1) : m * (1 - d * x * x * y * y) = y * y + x * x := by grind
theorem y4_3 {z m A : Fp} (hz : z = 0) : z * A = z * m + m * z := by grind
theorem y4_4 {d z m o : Fp} (hz : z = 0) (hm : m = -1) (ho : o = 1) : o * (1 - d * z * z * m * m) = m * m + z * z := by grind
theorem y_zero_four {p : Pt C} (h : p.y = 0) : (p.add p).add (p.add p) = Pt.nought C := by
  have h2 : p.add p = ⟨0, -1, on_two rfl rfl⟩ := Pt.add_is p p _ (y4_1 h rfl) (y4_2 p.on h rfl)
  rw [h2]
  exact Pt.add_is _ _ _ (y4_3 rfl) (y4_4 rfl rfl rfl)
theorem mul_y_ne {p : Pt C} {L : Nat} (hL : L % 2 = 1) (h : p.mul L = Pt.nought C) (m : Nat) : (p.mul m).y ≠ 0 := by
  intro h0
  have h4 := y_zero_four h0
  rw [← Pt.mul_two, ← Pt.mul_two, show 2 * (2 * m) = 4 * m by omega] at h4
  have := odd_four hL h m h4
  rw [this] at h0
  revert h0
  show (1 : Fp) = 0 → False
  decide +kernel
end Go.Proofs.YtckdifcelgooeaaDoor
namespace Go.Proofs.YtckdifcelgooeaaDoor
variable {C : Cv}
theorem Pt.neg_y (p : Pt C) : p.neg.y = p.y := rfl
theorem Pt.back (p r : Pt C) : (p.add r).add r.neg = p := by rw [Pt.assoc, Pt.add_neg, Pt.add_nought]
theorem step_bit (k n : Nat) : k / 2 ^ n = 2 * (k / 2 ^ (n + 1)) + k / 2 ^ n % 2 := by
  rw [Nat.pow_succ, ← Nat.div_div_eq_div_mul]
  omega
theorem lad_ok {r : Pt C} {L : Nat} {U : Fp} {k : Nat} (hd : C.d * 121666 = -121665) (hL : L % 2 = 1) (hr : r.mul L = Pt.nought C) (hU : U * (1 - r.y) = 1 + r.y) (hU0 : U ≠ 0) (hk : k < 2 ^ 255) :
    ∀ n, n ≤ 255 → Ms (lad U k n).x2 (lad U k n).z2 (r.mul (k / 2 ^ (255 - n))) ∧ Ms (lad U k n).x3 (lad U k n).z3 (r.mul (k / 2 ^ (255 - n) + 1))
  | 0, _ => by
    have h0 : k / 2 ^ (255 - 0) = 0 := Nat.div_eq_of_lt hk
    rw [h0]
    refine ⟨⟨?_, .inl ?_⟩, ⟨?_, .inl hU0⟩⟩
    · show (1 : Fp) * (1 - 1) = 0 * (1 + 1); decide +kernel
    · show (1 : Fp) ≠ 0; decide +kernel
    · show U * (1 - (r.mul (0 + 1)).y) = 1 * (1 + (r.mul (0 + 1)).y)
      rw [show r.mul (0 + 1) = r from Pt.mul_one r, hU, Fin.one_mul]
  | n + 1, hn => by
    have ih := lad_ok hd hL hr hU hU0 hk n (by omega)
    have e : 255 - n = (254 - n) + 1 := by omega
    have e' : 255 - (n + 1) = 254 - n := by omega
    have hb := step_bit k (254 - n)
    rw [e] at ih
    rw [e', hb]
    generalize k / 2 ^ (254 - n + 1) = m at *
    obtain ⟨i2, i3⟩ := ih
    have hm : r.mul (m + 1) = (r.mul m).add r := rfl
    have n1 := mul_y_ne hL hr m
    have n2 := mul_y_ne hL hr (m + 1)
    by_cases hbit : k / 2 ^ (254 - n) % 2 = 1
    · have hkb : kbit k (254 - n) = true := decide_eq_true hbit
      rw [hbit]
      have d := Ms.dbl hd i3 _ _ _ rfl rfl rfl
      have a := Ms.add (r := r.neg) i3 i2 (by rw [hm, Pt.back]) (by rw [Pt.neg_y]; exact hU) hU0 (.inl n2) _ _ rfl rfl
      rw [← Pt.mul_two, show 2 * (m + 1) = 2 * m + 1 + 1 by omega] at d
      rw [← Pt.mul_add, show m + 1 + m = 2 * m + 1 by omega] at a
      show Ms (((((lad U k n).swap (kbit k (254 - n))).step U).swap (kbit k (254 - n))).x2) (((((lad U k n).swap (kbit k (254 - n))).step U).swap (kbit k (254 - n))).z2) _ ∧ Ms (((((lad U k n).swap (kbit k (254 - n))).step U).swap (kbit k (254 - n))).x3) (((((lad U k n).swap (kbit k (254 - n))).step U).swap (kbit k (254 - n))).z3) _
      rw [hkb]
      exact ⟨a, d⟩
    · have h0 : k / 2 ^ (254 - n) % 2 = 0 := by omega
      have hkb : kbit k (254 - n) = false := decide_eq_false hbit
      rw [h0]
      have d := Ms.dbl hd i2 _ _ _ rfl rfl rfl
      have a := Ms.add (r := r) i2 i3 hm hU hU0 (.inl n1) _ _ rfl rfl
      rw [← Pt.mul_two] at d
      rw [← Pt.mul_add, show m + (m + 1) = 2 * m + 0 + 1 by omega] at a
      show Ms (((((lad U k n).swap (kbit k (254 - n))).step U).swap (kbit k (254 - n))).x2) (((((lad U k n).swap (kbit k (254 - n))).step U).swap (kbit k (254 - n))).z2) _ ∧ Ms (((((lad U k n).swap (kbit k (254 - n))).step U).swap (kbit k (254 - n))).x3) (((((lad U k n).swap (kbit k (254 - n))).step U).swap (kbit k (254 - n))).z3) _
      rw [hkb]
      exact ⟨d, a⟩
theorem einv_zero : inv (0 : Fp) = 0 := by
  unfold inv
  rw [toF_pow]
  exact pow_zero' rfl _ (by decide +kernel)
theorem quot {l a b i j : Fp} (h1 : l * b * i = 1) (h2 : b * j = 1) : l * a * i = a * j := by grind
theorem Ms.out {X Z : Fp} {p : Pt C} (h : Ms X Z p) : X * inv Z = uo p := by
  obtain ⟨l, hl, rfl, rfl⟩ := h.lam
  unfold uo
  by_cases h0 : 1 - p.y = 0
  · rw [h0, Fin.mul_zero, einv_zero, Fin.mul_zero, Fin.mul_zero]
  · exact quot (einv_mul (mul_ne hl h0)) (einv_mul h0)
theorem ladder_ok {r : Pt C} {L : Nat} {U : Fp} {k : Nat} (hd : C.d * 121666 = -121665) (hL : L % 2 = 1) (hr : r.mul L = Pt.nought C) (hU : U * (1 - r.y) = 1 + r.y) (hU0 : U ≠ 0) (hk : k < 2 ^ 255) : ladder U k = uo (r.mul k) := by
  have h := (lad_ok hd hL hr hU hU0 hk 255 (Nat.le_refl _)).1
  rw [show k / 2 ^ (255 - 255) = k by simp] at h
  exact h.out
/-- Of 0 the ladder makes 0. -/
theorem lad_zero (k : Nat) : ∀ n, ((lad 0 k n).x2 = 0 ∨ (lad 0 k n).z2 = 0) ∧ ((lad 0 k n).x3 = 0 ∨ (lad 0 k n).z3 = 0)
  | 0 => ⟨.inr rfl, .inl rfl⟩
  | n + 1 => by
    have ih := lad_zero k n
    have st : ∀ s : St, (s.x2 = 0 ∨ s.z2 = 0) → ((s.step 0).x2 = 0 ∨ (s.step 0).z2 = 0) ∧ ((s.step 0).x3 = 0 ∨ (s.step 0).z3 = 0) := fun s h => by
      refine ⟨.inr ?_, .inr ?_⟩
      · show ((s.x2 + s.z2) * (s.x2 + s.z2) - (s.x2 - s.z2) * (s.x2 - s.z2)) * _ = (0 : Fp)
        have e : (s.x2 + s.z2) * (s.x2 + s.z2) - (s.x2 - s.z2) * (s.x2 - s.z2) = 4 * (s.x2 * s.z2) := by generalize s.x2 = a; generalize s.z2 = b; grind
        rw [e]
        rcases h with h | h
        · rw [h, Fin.zero_mul, Fin.mul_zero, Fin.zero_mul]
        · rw [h, Fin.mul_zero, Fin.mul_zero, Fin.zero_mul]
      · show (0 : Fp) * _ = 0
        exact Fin.zero_mul _
    rw [show lad 0 k (n + 1) = (((lad 0 k n).swap (kbit k (254 - n))).step 0).swap (kbit k (254 - n)) from rfl]
    cases kbit k (254 - n)
    · exact st _ ih.1
    · have h := st ⟨(lad 0 k n).x3, (lad 0 k n).z3, (lad 0 k n).x2, (lad 0 k n).z2⟩ ih.2
      exact ⟨h.2, h.1⟩
theorem ladder_zero (k : Nat) : ladder 0 k = 0 := by
  unfold ladder
  rcases (lad_zero k 255).1 with h | h
  · rw [h, Fin.zero_mul]
  · rw [h, einv_zero, Fin.mul_zero]
/-! The base point and its number 9. -/
theorem E25_d : E25.d * 121666 = -121665 := by decide +kernel
theorem base_nine : (9 : Fp) * (1 - B25.y) = 1 + B25.y := by decide +kernel
theorem nine_ne : (9 : Fp) ≠ 0 := by decide +kernel
theorem LB_odd : LB % 2 = 1 := by decide +kernel
theorem public_ok {k : Nat} (hk : k < 2 ^ 255) : ladder 9 k = uo (B25.mul k) := ladder_ok E25_d LB_odd base_order base_nine nine_ne hk
theorem one_x {d x y : Fp} (h : y * y - x * x = 1 + d * (x * x) * (y * y)) (hy : y * y = 1) : x * x * (1 + d) = 0 := by grind
theorem sq_one {y : Fp} (h : y = -1) : y * y = 1 := by grind
theorem x_zero {p : Pt E25} (h : p.y * p.y = 1) : p.x = 0 := by
  have h1 := one_x p.on h
  rcases mul_zero' h1 with h2 | h2
  · exact (mul_zero' h2).elim id id
  · exfalso
    revert h2
    show 1 + toF ed = 0 → False
    decide +kernel
theorem uo_nought : uo (Pt.nought C) = 0 := by
  show (1 + 1 : Fp) * inv (1 - 1) = 0
  have : (1 - 1 : Fp) = 0 := by decide +kernel
  rw [this, einv_zero, Fin.mul_zero]
theorem half_neg {y : Fp} (h : 1 + y = 0) : y = -1 := by grind
theorem eq_one {y : Fp} (h : 1 - y = 0) : y = 1 := by grind
theorem zero_ne_one' : (0 : Fp) ≠ 1 := by decide +kernel
/-- A multiple of the base point for which 0 stands is nought. -/
theorem uo_zero {k : Nat} (h : uo (B25.mul k) = 0) : B25.mul k = Pt.nought E25 := by
  unfold uo at h
  rcases mul_zero' h with h1 | h1
  · exfalso
    have hy := half_neg h1
    have hx := x_zero (sq_one hy)
    have e : B25.mul k = ⟨0, -1, on_two rfl rfl⟩ := Pt.ext' hx hy
    have h2 : (B25.mul k).add (B25.mul k) = Pt.nought E25 := by rw [e]; exact Pt.add_is _ _ _ (y4_3 rfl) (y4_4 rfl rfl rfl)
    have h4 : B25.mul (4 * k) = Pt.nought E25 := by
      rw [show 4 * k = 2 * (2 * k) by omega, Pt.mul_two, Pt.mul_two, h2, Pt.add_nought]
    have := odd_four LB_odd base_order k h4
    rw [this] at hy
    revert hy
    show (1 : Fp) = -1 → False
    decide +kernel
  · by_cases h0 : 1 - (B25.mul k).y = 0
    · have hy := eq_one h0
      exact Pt.ext' (x_zero (by rw [hy]; rfl)) hy
    · have := einv_mul h0
      rw [h1, Fin.mul_zero] at this
      exact absurd this zero_ne_one'
theorem uo_mul {y j : Fp} (h : (1 - y) * j = 1) : (1 + y) * j * (1 - y) = 1 + y := by grind
/-- Two share one number. -/
theorem agrees {j k : Nat} (hj : j < 2 ^ 255) (hk : k < 2 ^ 255) : ladder (ladder 9 k) j = ladder (ladder 9 j) k := by
  have key : ∀ j k, j < 2 ^ 255 → k < 2 ^ 255 → ladder (ladder 9 k) j = uo (B25.mul (k * j)) := fun j k hj hk => by
    rw [public_ok hk]
    by_cases h : uo (B25.mul k) = 0
    · rw [h, ladder_zero, ← Pt.mul_mul, uo_zero h, Pt.mul_nought, uo_nought]
    · have hn : 1 - (B25.mul k).y ≠ 0 := fun h0 => h (by unfold uo; rw [h0, einv_zero, Fin.mul_zero])
      rw [← Pt.mul_mul]
      exact ladder_ok E25_d LB_odd (by rw [Pt.mul_mul, Nat.mul_comm, ← Pt.mul_mul, base_order, Pt.mul_nought]) (uo_mul (einv_mul hn)) h hj
  rw [key j k hj hk, key k j hk hj, Nat.mul_comm]
end Go.Proofs.YtckdifcelgooeaaDoor
namespace Go.Proofs.YtckdifcelgooeaaDoor
def sbN (x y : Nat) : Nat := (x + (P25 - y)) % P25
def adN (x y : Nat) : Nat := (x + y) % P25
def mlN (x y : Nat) : Nat := x * y % P25
theorem sbN_lt (x y : Nat) : sbN x y < P25 := Nat.mod_lt _ (by decide +kernel)
theorem adN_lt (x y : Nat) : adN x y < P25 := Nat.mod_lt _ (by decide +kernel)
theorem mlN_lt (x y : Nat) : mlN x y < P25 := Nat.mod_lt _ (by decide +kernel)
theorem toF_sbN (x y : Nat) (h : y < P25) : toF (sbN x y) = toF x - toF y := by unfold sbN; rw [toF_mod, toF_sub (Nat.le_of_lt h)]
theorem toF_adN (x y : Nat) : toF (adN x y) = toF x + toF y := by unfold adN; rw [toF_mod, toF_add]
theorem toF_mlN (x y : Nat) : toF (mlN x y) = toF x * toF y := by unfold mlN; rw [toF_mod, toF_mul]
structure SN where
  x2 : Nat
  z2 : Nat
  x3 : Nat
  z3 : Nat
def SN.ok (s : SN) : Prop := s.x2 < P25 ∧ s.z2 < P25 ∧ s.x3 < P25 ∧ s.z3 < P25
def SN.swap (b : Bool) (s : SN) : SN := if b then ⟨s.x3, s.z3, s.x2, s.z2⟩ else s
/-- One step: a, b, da, cb, aa, bb, e as the document names them. -/
def SN.step (u : Nat) (s : SN) : SN :=
  let a := adN s.x2 s.z2
  let b := sbN s.x2 s.z2
  let da := mlN (sbN s.x3 s.z3) a
  let cb := mlN (adN s.x3 s.z3) b
  let aa := mlN a a
  let bb := mlN b b
  let e := sbN aa bb
  ⟨mlN aa bb, mlN e (adN aa (mlN 121665 e)), mlN (adN da cb) (adN da cb), mlN u (mlN (sbN da cb) (sbN da cb))⟩
def SN.toSt (s : SN) : St := ⟨toF s.x2, toF s.z2, toF s.x3, toF s.z3⟩
theorem SN.step_ok (u : Nat) (s : SN) : (s.step u).ok := ⟨mlN_lt _ _, mlN_lt _ _, mlN_lt _ _, mlN_lt _ _⟩
theorem SN.swap_ok {b : Bool} {s : SN} (h : s.ok) : (s.swap b).ok := by
  unfold SN.swap
  split
  · exact ⟨h.2.2.1, h.2.2.2, h.1, h.2.1⟩
  · exact h
theorem SN.swap_to (b : Bool) (s : SN) : (s.swap b).toSt = s.toSt.swap b := by cases b <;> rfl
theorem lit_c : toF 121665 = (121665 : Fp) := rfl
theorem SN.step_to (u : Nat) {s : SN} (h : s.ok) : (s.step u).toSt = s.toSt.step (toF u) := by
  unfold SN.step SN.toSt St.step
  simp only [toF_mlN, toF_adN, toF_sbN _ _ h.2.1, toF_sbN _ _ h.2.2.2, toF_sbN _ _ (mlN_lt _ _), lit_c]
def ladN (u k : Nat) : Nat → SN
  | 0 => ⟨1, 0, u, 1⟩
  | n + 1 => (((ladN u k n).swap (kbit k (254 - n))).step u).swap (kbit k (254 - n))
theorem ladN_ok {u : Nat} (hu : u < P25) (k : Nat) : ∀ n, (ladN u k n).ok
  | 0 => ⟨show 1 < P25 by decide +kernel, show 0 < P25 by decide +kernel, hu, show 1 < P25 by decide +kernel⟩
  | n + 1 => SN.swap_ok (SN.step_ok u _)
theorem ladN_to {u : Nat} (hu : u < P25) (k : Nat) : ∀ n, (ladN u k n).toSt = lad (toF u) k n
  | 0 => rfl
  | n + 1 => by
    show ((((ladN u k n).swap (kbit k (254 - n))).step u).swap (kbit k (254 - n))).toSt = _
    rw [SN.swap_to, SN.step_to u (SN.swap_ok (ladN_ok hu k n)), SN.swap_to, ladN_to hu k n]
    rfl
/-- What the ladder makes, in numbers. -/
def ladderN (u k : Nat) : Nat := mlN (ladN u k 255).x2 ((ladN u k 255).z2 ^ (P25 - 2) % P25)
theorem ladderN_lt (u k : Nat) : ladderN u k < P25 := mlN_lt _ _
theorem inv_to {z : Nat} (hz : z < P25) : toF (z ^ (P25 - 2) % P25) = inv (toF z) := by
  unfold inv
  rw [toF_mod, toF_val, Nat.mod_eq_of_lt hz]
theorem ladderN_to {u : Nat} (hu : u < P25) (k : Nat) : toF (ladderN u k) = ladder (toF u) k := by
  have h := ladN_to hu k 255
  have ho := ladN_ok hu k 255
  unfold ladderN ladder
  rw [toF_mlN, inv_to ho.2.1, ← h]
  rfl
/-- Two that know each one's secret share one number. -/
theorem agreesN {j k : Nat} (hj : j < 2 ^ 255) (hk : k < 2 ^ 255) : ladderN (ladderN 9 k) j = ladderN (ladderN 9 j) k := by
  have h9 : 9 < P25 := by decide +kernel
  have e9 : toF 9 = (9 : Fp) := rfl
  have h := agrees hj hk
  rw [← e9, ← ladderN_to h9, ← ladderN_to h9, ← ladderN_to (ladderN_lt _ _), ← ladderN_to (ladderN_lt _ _), toF_eq, Nat.mod_eq_of_lt (ladderN_lt _ _), Nat.mod_eq_of_lt (ladderN_lt _ _)] at h
  exact h
theorem bit_of (x i : Nat) : by8 x (i / 8) / 2 ^ (i % 8) % 2 = x / 2 ^ i % 2 := by
  have e : i = 8 * (i / 8) + i % 8 := (Nat.div_add_mod i 8).symm
  have hlt := Nat.mod_lt i (show 0 < 8 by decide)
  unfold by8 dgt
  generalize i / 8 = q at *
  generalize i % 8 = r at *
  subst e
  rw [show (256 : Nat) ^ q = 2 ^ (8 * q) by rw [show (256 : Nat) = 2 ^ 8 from rfl, ← Nat.pow_mul], Nat.pow_add, ← Nat.div_div_eq_div_mul]
  generalize x / 2 ^ (8 * q) = y
  have : r = 0 ∨ r = 1 ∨ r = 2 ∨ r = 3 ∨ r = 4 ∨ r = 5 ∨ r = 6 ∨ r = 7 := by omega
  rcases this with rfl | rfl | rfl | rfl | rfl | rfl | rfl | rfl <;> omega
end Go.Proofs.YtckdifcelgooeaaDoor
