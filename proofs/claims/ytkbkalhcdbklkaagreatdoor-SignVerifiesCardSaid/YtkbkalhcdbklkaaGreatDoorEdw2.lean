/-
  The sum of two points: again a point; the order and the brackets; nought; the negative; multiples. Of no program. By an AI agent.
-/
import Derived.Test.YtkbkalhcdbklkaaGreatDoorJ11
namespace Go.Proofs.YtkbkalhcdbklkaaGreatDoor
structure Cv where
 d : Fp
 i : Fp
 sq : i * i = -1
 no : ∀ s : Fp, s * s ≠ d
structure Pt (C : Cv) where
 x : Fp
 y : Fp
 on : On C.d x y
variable {C : Cv}
theorem Pt.ext' {p q : Pt C} (hx : p.x = q.x) (hy : p.y = q.y) : p = q := by
 cases p; cases q; simp at hx hy; subst hx hy; rfl
def dt (d x1 y1 x2 y2 : Fp) : Fp := d * x1 * x2 * y1 * y2
theorem dp_ne (p q : Pt C) : 1 + dt C.d p.x p.y q.x q.y ≠ 0 := fun h => full (e := -1) C.sq C.no p.on q.on (by grind) (by unfold dt at h; grind)
theorem dm_ne (p q : Pt C) : 1 - dt C.d p.x p.y q.x q.y ≠ 0 := fun h => full (e := 1) C.sq C.no p.on q.on (by grind) (by unfold dt at h; grind)
def sx (d x1 y1 x2 y2 : Fp) : Fp := (x1 * y2 + y1 * x2) * inv (1 + dt d x1 y1 x2 y2)
def sy (d x1 y1 x2 y2 : Fp) : Fp := (y1 * y2 + x1 * x2) * inv (1 - dt d x1 y1 x2 y2)
theorem sx_mul (p q : Pt C) : sx C.d p.x p.y q.x q.y * (1 + dt C.d p.x p.y q.x q.y) = p.x * q.y + p.y * q.x := by
 have h := einv_mul (dp_ne p q)
 unfold sx
 generalize inv (1 + dt C.d p.x p.y q.x q.y) = j at *
 grind
theorem sy_mul (p q : Pt C) : sy C.d p.x p.y q.x q.y * (1 - dt C.d p.x p.y q.x q.y) = p.y * q.y + p.x * q.x := by
 have h := einv_mul (dm_ne p q)
 unfold sy
 generalize inv (1 - dt C.d p.x p.y q.x q.y) = j at *
 grind
theorem on_sum {d x1 y1 x2 y2 A B X Y : Fp} (h1 : On d x1 y1) (h2 : On d x2 y2) (hA : A = 1 + dt d x1 y1 x2 y2) (hB : B = 1 - dt d x1 y1 x2 y2) (hX : X = x1 * y2 + y1 * x2) (hY : Y = y1 * y2 + x1 * x2) :
  (Y * Y) * (A * A) - (X * X) * (B * B) = (A * A) * (B * B) + d * (X * X) * (Y * Y) := by
 unfold On at h1 h2
 unfold dt at hA hB
 subst hA hB hX hY
 grind
theorem on_add (p q : Pt C) : On C.d (sx C.d p.x p.y q.x q.y) (sy C.d p.x p.y q.x q.y) := by
 have hA := dp_ne p q
 have hB := dm_ne p q
 have h := on_sum p.on q.on rfl rfl rfl rfl
 rw [← sx_mul p q, ← sy_mul p q] at h
 generalize sx C.d p.x p.y q.x q.y = X at *
 generalize sy C.d p.x p.y q.x q.y = Y at *
 generalize 1 + dt C.d p.x p.y q.x q.y = A at *
 generalize 1 - dt C.d p.x p.y q.x q.y = B at *
 unfold On
 refine cancel (mul_ne (mul_ne hA hA) (mul_ne hB hB)) ?_
 grind
def Pt.add (p q : Pt C) : Pt C := ⟨sx C.d p.x p.y q.x q.y, sy C.d p.x p.y q.x q.y, on_add p q⟩
def Pt.nought (C : Cv) : Pt C := ⟨0, 1, by unfold On; grind⟩
def Pt.neg (p : Pt C) : Pt C := ⟨-p.x, p.y, by have := p.on; unfold On at *; grind⟩
theorem Pt.add_is (p q r : Pt C) (hx : r.x * (1 + dt C.d p.x p.y q.x q.y) = p.x * q.y + p.y * q.x) (hy : r.y * (1 - dt C.d p.x p.y q.x q.y) = p.y * q.y + p.x * q.x) : p.add q = r := by
 have h1 := sx_mul p q
 have h2 := sy_mul p q
 refine Pt.ext' (cancel (dp_ne p q) ?_) (cancel (dm_ne p q) ?_)
 ·show _ * sx C.d p.x p.y q.x q.y = _; grind
 ·show _ * sy C.d p.x p.y q.x q.y = _; grind
theorem Pt.comm (p q : Pt C) : p.add q = q.add p := by
 refine Pt.add_is p q _ ?_ ?_
 ·have h := sx_mul q p
  show sx C.d q.x q.y p.x p.y * _ = _
  unfold dt at *
  grind
 ·have h := sy_mul q p
  show sy C.d q.x q.y p.x p.y * _ = _
  unfold dt at *
  grind
theorem Pt.add_nought (p : Pt C) : p.add (Pt.nought C) = p := by
 refine Pt.add_is p _ _ ?_ ?_ <;> (unfold Pt.nought dt; simp only []; grind)
theorem Pt.add_neg (p : Pt C) : p.add p.neg = Pt.nought C := by
 have h := p.on
 unfold On at h
 refine Pt.add_is p _ _ ?_ ?_ <;> (unfold Pt.nought Pt.neg dt; simp only []; grind)
theorem assoc_x {d x1 y1 x2 y2 x3 y3 : Fp} (h1 : On d x1 y1) (h2 : On d x2 y2) (h3 : On d x3 y3) :
  ((x1*y2+y1*x2)*(1-dt d x1 y1 x2 y2)*y3 + (y1*y2+x1*x2)*(1+dt d x1 y1 x2 y2)*x3) * ((1-dt d x2 y2 x3 y3)*(1+dt d x2 y2 x3 y3) + d*(x2*y3+y2*x3)*(y2*y3+x2*x3)*x1*y1)
  = ((x2*y3+y2*x3)*(1-dt d x2 y2 x3 y3)*y1 + (y2*y3+x2*x3)*(1+dt d x2 y2 x3 y3)*x1) * ((1-dt d x1 y1 x2 y2)*(1+dt d x1 y1 x2 y2) + d*(x1*y2+y1*x2)*(y1*y2+x1*x2)*x3*y3) := by
 unfold On at h1 h2 h3
 unfold dt
 grind
theorem assoc_y {d x1 y1 x2 y2 x3 y3 : Fp} (h1 : On d x1 y1) (h2 : On d x2 y2) (h3 : On d x3 y3) :
  ((y1*y2+x1*x2)*(1+dt d x1 y1 x2 y2)*y3 + (x1*y2+y1*x2)*(1-dt d x1 y1 x2 y2)*x3) * ((1-dt d x2 y2 x3 y3)*(1+dt d x2 y2 x3 y3) - d*(x2*y3+y2*x3)*(y2*y3+x2*x3)*x1*y1)
  = ((y2*y3+x2*x3)*(1+dt d x2 y2 x3 y3)*y1 + (x2*y3+y2*x3)*(1-dt d x2 y2 x3 y3)*x1) * ((1-dt d x1 y1 x2 y2)*(1+dt d x1 y1 x2 y2) - d*(x1*y2+y1*x2)*(y1*y2+x1*x2)*x3*y3) := by
 unfold On at h1 h2 h3
 unfold dt
 grind
theorem two_sum_x (p q r : Pt C) : ((p.add q).add r).x * ((1-dt C.d p.x p.y q.x q.y)*(1+dt C.d p.x p.y q.x q.y) + C.d*(p.x*q.y+p.y*q.x)*(p.y*q.y+p.x*q.x)*r.x*r.y)
  = (p.x*q.y+p.y*q.x)*(1-dt C.d p.x p.y q.x q.y)*r.y + (p.y*q.y+p.x*q.x)*(1+dt C.d p.x p.y q.x q.y)*r.x := by
 have h1 := sx_mul p q
 have h2 := sy_mul p q
 have h3 := sx_mul (p.add q) r
 have e1 : (p.add q).x = sx C.d p.x p.y q.x q.y := rfl
 have e2 : (p.add q).y = sy C.d p.x p.y q.x q.y := rfl
 show sx C.d (p.add q).x (p.add q).y r.x r.y * _ = _
 rw [e1, e2] at h3 ⊢
 rw [← h1, ← h2]
 generalize sx C.d p.x p.y q.x q.y = X at *
 generalize sy C.d p.x p.y q.x q.y = Y at *
 generalize 1 + dt C.d p.x p.y q.x q.y = A at *
 generalize 1 - dt C.d p.x p.y q.x q.y = B at *
 generalize sx C.d X Y r.x r.y = Z at *
 unfold dt at h3
 grind
theorem two_sum_y (p q r : Pt C) : ((p.add q).add r).y * ((1-dt C.d p.x p.y q.x q.y)*(1+dt C.d p.x p.y q.x q.y) - C.d*(p.x*q.y+p.y*q.x)*(p.y*q.y+p.x*q.x)*r.x*r.y)
  = (p.y*q.y+p.x*q.x)*(1+dt C.d p.x p.y q.x q.y)*r.y + (p.x*q.y+p.y*q.x)*(1-dt C.d p.x p.y q.x q.y)*r.x := by
 have h1 := sx_mul p q
 have h2 := sy_mul p q
 have h3 := sy_mul (p.add q) r
 have e1 : (p.add q).x = sx C.d p.x p.y q.x q.y := rfl
 have e2 : (p.add q).y = sy C.d p.x p.y q.x q.y := rfl
 show sy C.d (p.add q).x (p.add q).y r.x r.y * _ = _
 rw [e1, e2] at h3 ⊢
 rw [← h1, ← h2]
 generalize sx C.d p.x p.y q.x q.y = X at *
 generalize sy C.d p.x p.y q.x q.y = Y at *
 generalize 1 + dt C.d p.x p.y q.x q.y = A at *
 generalize 1 - dt C.d p.x p.y q.x q.y = B at *
 generalize sy C.d X Y r.x r.y = Z at *
 unfold dt at h3
 grind
theorem den_x (p q r : Pt C) : (1-dt C.d p.x p.y q.x q.y)*(1+dt C.d p.x p.y q.x q.y) + C.d*(p.x*q.y+p.y*q.x)*(p.y*q.y+p.x*q.x)*r.x*r.y ≠ 0 := by
 have h1 := sx_mul p q
 have h2 := sy_mul p q
 have h := mul_ne (mul_ne (dm_ne p q) (dp_ne p q)) (dp_ne (p.add q) r)
 have e1 : (p.add q).x = sx C.d p.x p.y q.x q.y := rfl
 have e2 : (p.add q).y = sy C.d p.x p.y q.x q.y := rfl
 rw [e1, e2] at h
 rw [← h1, ← h2]
 generalize sx C.d p.x p.y q.x q.y = X at *
 generalize sy C.d p.x p.y q.x q.y = Y at *
 generalize 1 + dt C.d p.x p.y q.x q.y = A at *
 generalize 1 - dt C.d p.x p.y q.x q.y = B at *
 unfold dt at h
 intro h0
 apply h
 grind
theorem den_y (p q r : Pt C) : (1-dt C.d p.x p.y q.x q.y)*(1+dt C.d p.x p.y q.x q.y) - C.d*(p.x*q.y+p.y*q.x)*(p.y*q.y+p.x*q.x)*r.x*r.y ≠ 0 := by
 have h1 := sx_mul p q
 have h2 := sy_mul p q
 have h := mul_ne (mul_ne (dm_ne p q) (dp_ne p q)) (dm_ne (p.add q) r)
 have e1 : (p.add q).x = sx C.d p.x p.y q.x q.y := rfl
 have e2 : (p.add q).y = sy C.d p.x p.y q.x q.y := rfl
 rw [e1, e2] at h
 rw [← h1, ← h2]
 generalize sx C.d p.x p.y q.x q.y = X at *
 generalize sy C.d p.x p.y q.x q.y = Y at *
 generalize 1 + dt C.d p.x p.y q.x q.y = A at *
 generalize 1 - dt C.d p.x p.y q.x q.y = B at *
 unfold dt at h
 intro h0
 apply h
 grind
theorem swap2 {a b e f : Fp} (h : a * e * f = b * f * e) : e * f * a = e * f * b := by grind
theorem Pt.assoc (p q r : Pt C) : (p.add q).add r = p.add (q.add r) := by
 have hl := two_sum_x p q r
 have hr := two_sum_x q r p
 have hl' := two_sum_y p q r
 have hr' := two_sum_y q r p
 rw [Pt.comm (q.add r) p] at hr hr'
 have hA := assoc_x p.on q.on r.on
 have hB := assoc_y p.on q.on r.on
 have n1 := den_x p q r
 have n2 := den_x q r p
 have n3 := den_y p q r
 have n4 := den_y q r p
 rw [← hl, ← hr] at hA
 rw [← hl', ← hr'] at hB
 exact Pt.ext' (cancel (mul_ne n1 n2) (swap2 hA)) (cancel (mul_ne n3 n4) (swap2 hB))
def Pt.mul (p : Pt C) : Nat → Pt C
 | 0 => Pt.nought C
 | n + 1 => (p.mul n).add p
theorem Pt.nought_add (p : Pt C) : (Pt.nought C).add p = p := by rw [Pt.comm, Pt.add_nought]
theorem Pt.mul_add (p : Pt C) (m : Nat) : ∀ n, p.mul (m + n) = (p.mul m).add (p.mul n)
 | 0 => (Pt.add_nought _).symm
 | n + 1 => by
  show (p.mul (m + n)).add p = (p.mul m).add ((p.mul n).add p)
  rw [Pt.mul_add p m n, Pt.assoc]
theorem Pt.mul_mul (p : Pt C) (m : Nat) : ∀ n, (p.mul m).mul n = p.mul (m * n)
 | 0 => rfl
 | n + 1 => by
  show ((p.mul m).mul n).add (p.mul m) = p.mul (m * n + m)
  rw [Pt.mul_mul p m n, Pt.mul_add]
theorem Pt.mul_one (p : Pt C) : p.mul 1 = p := Pt.nought_add p
theorem Pt.mul_nought : ∀ n, (Pt.nought C).mul n = Pt.nought C
 | 0 => rfl
 | n + 1 => by show ((Pt.nought C).mul n).add (Pt.nought C) = _; rw [Pt.mul_nought n, Pt.add_nought]
theorem Pt.mul_two (p : Pt C) (n : Nat) : p.mul (2 * n) = (p.mul n).add (p.mul n) := by rw [Nat.two_mul, Pt.mul_add]
theorem Pt.mul_mod {p : Pt C} {L : Nat} (h : p.mul L = Pt.nought C) (n : Nat) : p.mul n = p.mul (n % L) := by
 conv => lhs; rw [← Nat.mod_add_div n L]
 rw [Pt.mul_add, ← Pt.mul_mul, h, Pt.mul_nought, Pt.add_nought]
end Go.Proofs.YtkbkalhcdbklkaaGreatDoor
