/-
  The document's D, Nought, plus, Plus, right, Of, Point, On (layer 8) in numbers. By an AI agent.
-/
import Derived.Test.YtckdifcelgooeaaDoorE4
import Derived.Test.YtckdifcelgooeaaDoorE5
import Derived.Test.YtckdifcelgooeaaDoorE6
import Derived.Test.YtckdifcelgooeaaDoorTQ
namespace Go.Proofs.YtckdifcelgooeaaDoor
open Go Go.RowKit
theorem lInv {x : Nat} (hx : x < P25) (w : World) : Calls Tryd.prog 49 #[fv x] w fun e w' => e = .returned (fv (ivN x)) ∧ Below w.heap.size w w' := rinvert_any hx w
theorem lNeg {x : Nat} (hx : x < P25) (w : World) : Calls Tryd.prog 48 #[fv x] w fun e w' => e = .returned (fv ((P25 - x) % P25)) ∧ Below w.heap.size w w' := rneg_any (Nat.le_of_lt hx) w
/-- Three numbers below the prime. -/
def Tr.ok (t : Tr) : Prop := t.x < P25 ∧ t.y < P25 ∧ t.z < P25
theorem ed_lt : ed < P25 := by decide +kernel
theorem lt_W {x : Nat} (h : x < P25) : x < W4 := Nat.lt_trans h P25_W4
theorem adN_is (x y : Nat) : adN x y = (x + y) % P25 := rfl
section
attribute [local irreducible] wd by8 d16 set16w fl rl setA t3f ivN mlN adN sbN
theorem refD_any (w : World) : Calls Tryd.prog 15 #[] w fun e w' => e = .returned (fv ed) ∧ Below w.heap.size w w' := by
  obtain ⟨m1, h1⟩ : ∃ n, n = 65535 := ⟨_, rfl⟩
  obtain ⟨m2, h2⟩ : ∃ n, n = 56130 := ⟨_, rfl⟩
  obtain ⟨nc, h3⟩ : ∃ n, n = 121665 := ⟨_, rfl⟩
  obtain ⟨n1, h4⟩ : ∃ n, n = 1 := ⟨_, rfl⟩
  obtain ⟨sc, h5⟩ : ∃ n, n = 121666 := ⟨_, rfl⟩
  have l1 : m1 < P25 := by rw [h1]; decide +kernel
  have l2 : m2 < P25 := by rw [h2]; decide +kernel
  have l3 : nc < P25 := by rw [h3]; decide +kernel
  have l4 : n1 < P25 := by rw [h4]; decide +kernel
  have l5 : sc < P25 := by rw [h5]; decide +kernel
  have l6 : (P25 - nc) % P25 < P25 := Nat.mod_lt _ P25_pos
  have e3 : adN m1 m2 = nc := by rw [h1, h2, h3, adN_is]; exact Nat.mod_eq_of_lt (by decide +kernel)
  have e5 : adN nc n1 = sc := by rw [h3, h4, h5, adN_is]; exact Nat.mod_eq_of_lt (by decide +kernel)
  have e8 : mlN ((P25 - nc) % P25) (ivN sc) = ed := by rw [h3, h5]; exact d_is2
  refine D_gen (m1 := m1) (m2 := m2) (nc := nc) (ng := (P25 - nc) % P25) (n1 := n1) (sc := sc) (iv := ivN sc) (fun w => by rw [h1]; exact int_any (n := 65535) (by decide) w) (fun w => by rw [h2]; exact int_any (n := 56130) (by decide) w)
    (fun w => e3 ▸ lAdd l1 l2 w) (fun w => lNeg l3 w) (fun w => by rw [h4]; exact int_any (n := 1) (by decide) w) (fun w => e5 ▸ lAdd l3 l4 w) (fun w => lInv l5 w) (fun w => ?_) w
  have h := lMul l6 (show ivN sc < P25 from ivN_lt sc) w
  rwa [e8] at h
theorem refNought_any (w : World) : Calls Tryd.prog 55 #[] w fun e w' => e = .returned (t3v ⟨0, 1, 1⟩) ∧ Below w.heap.size w w' :=
  Nought_gen (n0 := 0) (n1 := 1) (fun w => int_any (n := 0) (by decide) w) (fun w => int_any (n := 1) (by decide) w) w
theorem plus_is (dd : Nat) (p q : Tr) : Tr.plus dd p q = ⟨mlN (mlN p.z q.z) (mlN (sbN (mlN (mlN p.z q.z) (mlN p.z q.z)) (mlN dd (mlN (mlN p.x q.x) (mlN p.y q.y)))) (adN (mlN p.x q.y) (mlN p.y q.x))),
    mlN (mlN p.z q.z) (mlN (adN (mlN (mlN p.z q.z) (mlN p.z q.z)) (mlN dd (mlN (mlN p.x q.x) (mlN p.y q.y)))) (adN (mlN p.y q.y) (mlN p.x q.x))),
    mlN (sbN (mlN (mlN p.z q.z) (mlN p.z q.z)) (mlN dd (mlN (mlN p.x q.x) (mlN p.y q.y)))) (adN (mlN (mlN p.z q.z) (mlN p.z q.z)) (mlN dd (mlN (mlN p.x q.x) (mlN p.y q.y))))⟩ := by with_unfolding_all rfl
theorem plus_ok (dd : Nat) (p q : Tr) : (Tr.plus dd p q).ok := by
  rw [plus_is]
  exact ⟨mlN_lt _ _, mlN_lt _ _, mlN_lt _ _⟩
theorem refplus_any {dd : Nat} (hd : dd < P25) {p q : Tr} (hp : p.ok) (hq : q.ok) (w : World) : Calls Tryd.prog 57 #[fv dd, t3v p, t3v q] w fun e w' => e = .returned (t3v (Tr.plus dd p q)) ∧ Below w.heap.size w w' := by
  obtain ⟨p1, p2, p3⟩ := hp
  obtain ⟨q1, q2, q3⟩ := hq
  have M := fun x y => mlN_lt x y
  have A := fun x y => adN_lt x y
  have S := fun x y => sbN_lt x y
  rw [plus_is]
  exact plus_gen (fun w => lMul p3 q3 w) (fun w => lMul (M _ _) (M _ _) w) (fun w => lMul p1 q1 w) (fun w => lMul p2 q2 w) (fun w => lMul p1 q2 w) (fun w => lMul p2 q1 w) (fun w => lAdd (M _ _) (M _ _) w) (fun w => lMul (M _ _) (M _ _) w) (fun w => lMul hd (M _ _) w)
    (fun w => lSub (M _ _) (M _ _) w) (fun w => lAdd (M _ _) (M _ _) w) (fun w => lMul (S _ _) (A _ _) w) (fun w => lMul (M _ _) (M _ _) w) (fun w => lAdd (M _ _) (M _ _) w) (fun w => lMul (A _ _) (A _ _) w) (fun w => lMul (M _ _) (M _ _) w) (fun w => lMul (S _ _) (A _ _) w) w
theorem refPlus_any {p q : Tr} (hp : p.ok) (hq : q.ok) (w : World) : Calls Tryd.prog 27 #[t3v p, t3v q] w fun e w' => e = .returned (t3v (Tr.plus ed p q)) ∧ Below w.heap.size w w' :=
  Plus_gen refD_any (fun w => refplus_any ed_lt hp hq w) w
theorem lOf {x : Nat} (hx : x < W4) (w : World) : Calls Tryd.prog 42 #[nv x] w fun e w' => e = .returned (fv (x % P25)) ∧ Below w.heap.size w w' := rof_any hx w
theorem refOf_any {x y : Nat} (hx : x < W4) (hy : y < W4) (w : World) : Calls Tryd.prog 23 #[prv x y] w fun e w' => e = .returned (t3v ⟨x % P25, y % P25, 1⟩) ∧ Below w.heap.size w w' :=
  Of_gen (fun w => lOf hx w) (fun w => lOf hy w) (fun w => int_any (n := 1) (by decide) w) w
theorem refPoint_any {t : Tr} (ht : t.ok) (w : World) : Calls Tryd.prog 19 #[t3v t] w fun e w' => e = .returned (prv (mlN t.x (ivN t.z)) (mlN t.y (ivN t.z))) ∧ Below w.heap.size w w' :=
  Point_gen (fun w => lInv ht.2.2 w) (fun w => lMul ht.1 (ivN_lt _) w) (fun w => rnum_any (lt_W (mlN_lt _ _)) w) (fun w => lMul ht.2.1 (ivN_lt _) w) (fun w => rnum_any (lt_W (mlN_lt _ _)) w) w
/-- Is it a point of the curve? -/
def okN (x y : Nat) : Bool := decide (x < P25) && (decide (y < P25) && onN x y)
theorem mod_lt_iff {x : Nat} : decide (x % P25 = x) = decide (x < P25) := decide_eq_decide.2 ⟨fun h => h ▸ Nat.mod_lt x P25_pos, fun h => Nat.mod_eq_of_lt h⟩
theorem refright_any {a : Nat} (ha : a < W4) (w : World) : Calls Tryd.prog 44 #[nv a] w fun e w' => e = .returned (.bool (decide (a < P25))) ∧ Below w.heap.size w w' :=
  right_gen ha (lt_W (Nat.mod_lt a P25_pos)) mod_lt_iff (fun w => lOf ha w) (fun w => rnum_any (lt_W (Nat.mod_lt a P25_pos)) w) w
theorem refOn_any {x y : Nat} (hx : x < W4) (hy : y < W4) (w : World) : Calls Tryd.prog 13 #[prv x y] w fun e w' => e = .returned (.bool (okN x y)) ∧ Below w.heap.size w w' := by
  have kx := fun w => lOf hx w
  have ky := fun w => lOf hy w
  have rx := fun w => refright_any hx w
  have ry := fun w => refright_any hy w
  have lx := Nat.mod_lt x P25_pos
  have ly := Nat.mod_lt y P25_pos
  unfold okN
  by_cases h1 : x < P25
  · rw [decide_eq_true h1] at rx ⊢
    by_cases h2 : y < P25
    · rw [decide_eq_true h2] at ry ⊢
      rw [Nat.mod_eq_of_lt h1] at kx
      rw [Nat.mod_eq_of_lt h2] at ky
      exact On_c (q := onN x y) (lt_W (sbN_lt _ _)) (lt_W (adN_lt _ _)) rfl kx ky (fun w => lMul h1 h1 w) (fun w => lMul h2 h2 w) rx ry (fun w => lSub (mlN_lt _ _) (mlN_lt _ _) w) (fun w => int_any (n := 1) (by decide) w) refD_any (fun w => lMul (mlN_lt _ _) (mlN_lt _ _) w) (fun w => lMul ed_lt (mlN_lt _ _) w) (fun w => lAdd (x := 1) (show 1 < P25 from P25_one) (mlN_lt _ _) w) w
    · rw [decide_eq_false h2] at ry ⊢
      exact On_b kx ky (fun w => lMul lx lx w) (fun w => lMul ly ly w) rx ry w
  · rw [decide_eq_false h1] at rx ⊢
    exact On_a kx ky (fun w => lMul lx lx w) (fun w => lMul ly ly w) rx w
end
end Go.Proofs.YtckdifcelgooeaaDoor
