/-
  The code's spots in numbers: sums, a point in two ways, bits of two numbers (layer 8); the package field's answers by short names. By an AI agent.
-/
import Derived.Test.YtgaofocjnifjdaaDoorU1
import Derived.Test.YtgaofocjnifjdaaDoorJ08
import Derived.Test.YtgaofocjnifjdaaDoorJ14
namespace Go.Proofs.YtgaofocjnifjdaaDoor
open Go Go.RowKit
theorem fs_sb {x y : Nat} (hy : y < P25) : fsub x y = sbN x y := by
  unfold fsub sbN
  rw [show x + 3 * P25 - y = x + (P25 - y) + P25 * 2 by omega, Nat.add_mul_mod_self_left]
theorem ltW {x : Nat} (h : x < P25) : x < W4 := Nat.lt_trans h P25_W4
theorem cAdd {x y : Nat} (hx : x < P25) (hy : y < P25) (w : World) : Calls Tryd.prog 59 #[nv x, nv y] w fun e w' => e = .returned (nv (adN x y)) ∧ Below w.heap.size w w' := fadd_any (ltW hx) (ltW hy) w
theorem cSub {x y : Nat} (hx : x < P25) (hy : y < P25) (w : World) : Calls Tryd.prog 58 #[nv x, nv y] w fun e w' => e = .returned (nv (sbN x y)) ∧ Below w.heap.size w w' := by
  have h := fsub_any (ltW hx) (ltW hy) w
  rwa [fs_sb hy] at h
theorem cMul {x y : Nat} (hx : x < P25) (hy : y < P25) (w : World) : Calls Tryd.prog 57 #[nv x, nv y] w fun e w' => e = .returned (nv (mlN x y)) ∧ Below w.heap.size w w' := fmul_any (ltW hx) (ltW hy) w
theorem cNeg {x : Nat} (hx : x < P25) (w : World) : Calls Tryd.prog 41 #[nv x] w fun e w' => e = .returned (nv ((P25 - x) % P25)) ∧ Below w.heap.size w w' := by
  have h := fneg_any (ltW hx) w
  rw [fs_sb hx] at h
  unfold sbN at h
  rwa [Nat.zero_add] at h
theorem cInv {x : Nat} (hx : x < P25) (w : World) : Calls Tryd.prog 62 #[nv x] w fun e w' => e = .returned (nv (ivN x)) ∧ Below w.heap.size w w' := finvert_any (ltW hx) w
def Sp.ok (s : Sp) : Prop := s.x < P25 ∧ s.y < P25 ∧ s.z < P25 ∧ s.t < P25
def Sp.of {C : Cv} (s : Sp) (p : Pt C) : Prop := toF s.z ≠ 0 ∧ toF s.x = p.x * toF s.z ∧ toF s.y = p.y * toF s.z ∧ toF s.t = p.x * p.y * toF s.z
theorem ed2_lt : ed2 < P25 := by decide +kernel
theorem ed2_is : toF ed2 = 2 * E25.d := by show toF ed2 = 2 * toF ed; decide +kernel
/-- The sum, as the code tells it. -/
def Sp.plus (p q : Sp) : Sp :=
  ⟨mlN (sbN (mlN (adN p.y p.x) (adN q.y q.x)) (mlN (sbN p.y p.x) (sbN q.y q.x))) (sbN (mlN (adN p.z p.z) q.z) (mlN (mlN p.t q.t) ed2)),
   mlN (adN (mlN (adN p.y p.x) (adN q.y q.x)) (mlN (sbN p.y p.x) (sbN q.y q.x))) (adN (mlN (adN p.z p.z) q.z) (mlN (mlN p.t q.t) ed2)),
   mlN (adN (mlN (adN p.z p.z) q.z) (mlN (mlN p.t q.t) ed2)) (sbN (mlN (adN p.z p.z) q.z) (mlN (mlN p.t q.t) ed2)),
   mlN (sbN (mlN (adN p.y p.x) (adN q.y q.x)) (mlN (sbN p.y p.x) (sbN q.y q.x))) (adN (mlN (adN p.y p.x) (adN q.y q.x)) (mlN (sbN p.y p.x) (sbN q.y q.x)))⟩
theorem Sp.plus_ok (p q : Sp) : (Sp.plus p q).ok := ⟨mlN_lt _ _, mlN_lt _ _, mlN_lt _ _, mlN_lt _ _⟩
theorem Sp.plus_of {s t : Sp} {p q : Pt E25} (ks : s.ok) (kt : t.ok) (hs : s.of p) (ht : t.of q) : (Sp.plus s t).of (p.add q) := by
  obtain ⟨z1, x1, y1, t1⟩ := hs
  obtain ⟨z2, x2, y2, t2⟩ := ht
  have h1 := sx_mul p q
  have h2 := sy_mul p q
  have n1 := dp_ne p q
  have n2 := dm_ne p q
  have e1 : (p.add q).x = sx E25.d p.x p.y q.x q.y := rfl
  have e2 : (p.add q).y = sy E25.d p.x p.y q.x q.y := rfl
  have M := fun x y => mlN_lt x y
  unfold Sp.of Sp.plus
  simp only [toF_mlN, toF_adN, toF_sbN _ _ ks.1, toF_sbN _ _ kt.1, toF_sbN _ _ (mlN_lt _ _), ed2_is]
  rw [e1, e2, x1, y1, t1, x2, y2, t2]
  clear ks kt M x1 y1 t1 x2 y2 t2
  generalize sx E25.d p.x p.y q.x q.y = X at *
  generalize sy E25.d p.x p.y q.x q.y = Y at *
  generalize toF s.z = u at *
  generalize toF t.z = v at *
  have k1 : (u + u) * v + p.x * p.y * u * (q.x * q.y * v) * (2 * E25.d) = 2 * (u * v) * (1 + dt E25.d p.x p.y q.x q.y) := by unfold dt; grind
  have k2 : (u + u) * v - p.x * p.y * u * (q.x * q.y * v) * (2 * E25.d) = 2 * (u * v) * (1 - dt E25.d p.x p.y q.x q.y) := by unfold dt; grind
  have k3 : (p.y * u + p.x * u) * (q.y * v + q.x * v) - (p.y * u - p.x * u) * (q.y * v - q.x * v) = 2 * (u * v) * (p.x * q.y + p.y * q.x) := by grind
  have k4 : (p.y * u + p.x * u) * (q.y * v + q.x * v) + (p.y * u - p.x * u) * (q.y * v - q.x * v) = 2 * (u * v) * (p.y * q.y + p.x * q.x) := by grind
  rw [k1, k2, k3, k4, ← h1, ← h2]
  generalize 1 + dt E25.d p.x p.y q.x q.y = A at *
  generalize 1 - dt E25.d p.x p.y q.x q.y = B at *
  have huv : 2 * (u * v) ≠ 0 := mul_ne two_ne (mul_ne z1 z2)
  clear e1 e2 k1 k2 k3 k4 h1 h2
  refine ⟨mul_ne (mul_ne huv n1) (mul_ne huv n2), ?_, ?_, ?_⟩
  · grind
  · grind
  · grind
/-- A point as a spot. -/
def Sp.up (x y : Nat) : Sp := ⟨x, y, 1, mlN x y⟩
theorem Sp.up_ok {x y : Nat} (hx : x < P25) (hy : y < P25) : (Sp.up x y).ok := ⟨hx, hy, P25_one, mlN_lt _ _⟩
theorem Sp.up_of {x y : Nat} (h : onN x y = true) : (Sp.up x y).of (ptN x y h) := by
  refine ⟨(show toF 1 ≠ 0 by decide +kernel), ?_, ?_, ?_⟩
  · show toF x = toF x * 1
    grind
  · show toF y = toF y * 1
    grind
  · show toF (mlN x y) = toF x * toF y * 1
    rw [toF_mlN]
    grind
/-- A spot as a point. -/
theorem Sp.down {s : Sp} {p : Pt E25} (hs : s.ok) (h : s.of p) : mlN s.x (ivN s.z) = p.x.val ∧ mlN s.y (ivN s.z) = p.y.val :=
  of_point (t := ⟨s.x, s.y, s.z⟩) ⟨h.1, h.2.1, h.2.2.1⟩ hs.2.2.1
theorem Pt.four (a b i j : Pt E25) : (a.add b).add (i.add j) = (a.add i).add (b.add j) := by
  rw [Pt.assoc, ← Pt.assoc b i j, Pt.comm b i, Pt.assoc i b j, ← Pt.assoc a i (b.add j)]
/-- One step of two multiples at once: of two bits. -/
theorem Pt.step2 (p q : Pt E25) (m n i j : Nat) : (((p.mul m).add (q.mul n)).add ((p.mul m).add (q.mul n))).add ((p.mul i).add (q.mul j)) = (p.mul (2 * m + i)).add (q.mul (2 * n + j)) := by
  rw [Pt.four (p.mul m) (q.mul n), Pt.four, ← Pt.mul_add, ← Pt.mul_add, ← Pt.mul_add, ← Pt.mul_add, ← Nat.two_mul, ← Nat.two_mul]
theorem hi_succ {a k : Nat} (hk : k < 256) : a / 2 ^ (256 - (k + 1)) = 2 * (a / 2 ^ (256 - k)) + bt a (255 - k) := by
  unfold bt
  rw [show 256 - k = (255 - k) + 1 by omega, show 256 - (k + 1) = 255 - k by omega, Nat.pow_succ, ← Nat.div_div_eq_div_mul]
  omega
theorem hi_zero {a : Nat} (ha : a < W4) : a / 2 ^ (256 - 0) = 0 := by
  have hW : W4 = 2 ^ (256 - 0) := by decide +kernel
  exact Nat.div_eq_of_lt (by rw [← hW]; exact ha)
theorem hi_end (a : Nat) : a / 2 ^ (256 - 256) = a := by rw [Nat.sub_self, Nat.pow_zero, Nat.div_one]
/-- Which of four spots two bits ask for. -/
def Ta.pick (t : Ta) (i j : Nat) : Sp := if j = 0 then (if i = 0 then t.n else t.f) else (if i = 0 then t.h else t.b)
/-- What a tally holds: the four spots of two points. -/
structure Ta.of4 (t : Ta) (p q : Pt E25) : Prop where
  kn : t.n.ok
  kf : t.f.ok
  kh : t.h.ok
  kb : t.b.ok
  n : t.n.of (Pt.nought E25)
  f : t.f.of p
  h : t.h.of q
  b : t.b.of (p.add q)
theorem Ta.of4.pick {t : Ta} {p q : Pt E25} (h : t.of4 p q) {i j : Nat} (hi : i < 2) (hj : j < 2) : (t.pick i j).ok ∧ (t.pick i j).of ((p.mul i).add (q.mul j)) := by
  have m0 : ∀ r : Pt E25, r.mul 0 = Pt.nought E25 := fun _ => rfl
  unfold Ta.pick
  rcases (show i = 0 ∨ i = 1 by omega) with rfl | rfl <;> rcases (show j = 0 ∨ j = 1 by omega) with rfl | rfl
  · rw [if_pos rfl, if_pos rfl, m0, m0, Pt.add_nought]; exact ⟨h.kn, h.n⟩
  · rw [if_neg (by decide), if_pos rfl, m0, Pt.mul_one, Pt.nought_add]; exact ⟨h.kh, h.h⟩
  · rw [if_pos rfl, if_neg (by decide), m0, Pt.mul_one, Pt.add_nought]; exact ⟨h.kf, h.f⟩
  · rw [if_neg (by decide), if_neg (by decide), Pt.mul_one, Pt.mul_one]; exact ⟨h.kb, h.b⟩
end Go.Proofs.YtgaofocjnifjdaaDoor
