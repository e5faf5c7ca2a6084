/-
  ! '==' and '!=' over numbers, by a law (the walk's own steps over a great frame run the kernel out of memory). (and more)
-/
import Derived.Test.YtkbkalhcdbklkaaGreatDoorMG
import Derived.Test.YtkbkalhcdbklkaaGreatDoorJ01
namespace Go.Proofs.YtkbkalhcdbklkaaGreatDoor
section
open Go Go.RowKit
section
variable {P : Program}
theorem wp_eqlA (t ty : TypeId) (s1 s2 : Operand) {w : World} {o : Oper} {a : Act} {K : Act → World → Prop} {Q : Exit → Act → World → Prop} (ho : o.op = .binOp .eql t s1 s2 ty)
  {xs ys : Array Value} (h1 : a.eval s1 = .agg xs) (h2 : a.eval s2 = .agg ys) (hg : (eqGuard .eql t s1 s2 (.agg xs) (.agg ys)).run P w = .ok () w) {r : Bool} (hq : (Op.equalIn 10000 t (.agg xs) (.agg ys)).run P w = .ok r w)
  (h : K (a.put o.dst (.bool r)) w) : o.wp P a w K Q := by
 unfold Oper.wp execOp
 simp only [ho, h1, h2, Sem.run_bind, hg, Result.andThen_ok, run_eql_struct, hq, Sem.run_pure]
 exact h
theorem wpList_eqlA (t ty : TypeId) (s1 s2 : Operand) {w : World} {ops : Array Oper} {rest : List Oper} {o : Oper} {a : Act} {Q : Exit → Act → World → Prop} (hgd : o.guard = none) (ho : o.op = .binOp .eql t s1 s2 ty)
  {xs ys : Array Value} (h1 : a.eval s1 = .agg xs) (h2 : a.eval s2 = .agg ys) (hg : (eqGuard .eql t s1 s2 (.agg xs) (.agg ys)).run P w = .ok () w) {r : Bool} (hq : (Op.equalIn 10000 t (.agg xs) (.agg ys)).run P w = .ok r w)
  (h : wpList P ops Q rest (a.put o.dst (.bool r)) w) : wpList P ops Q (o :: rest) a w :=
 wpList_plain hgd fun _ hK => wp_eqlA t ty s1 s2 ho h1 h2 hg hq (hK _ _ h)
theorem gate_list (b : BinOp) (t : TypeId) {ty tp : TypeId} {s1 s2 : Operand} {dst : Option Nat} {ps : String} {af : Array Edge} {w : World} {ops : Array Oper} {rest : List Oper} {a : Act} {Q : Exit → Act → World → Prop}
  (h : wpList P ops Q (⟨dst, .binOp b t s1 s2 ty, tp, ps, af, none⟩ :: rest) a w) : wpList P ops Q (⟨dst, .binOp b t s1 s2 ty, tp, ps, af, none⟩ :: rest) a w := h
end
theorem guard4 (s1 s2 : Operand) (xs ys : Array Value) (w : World) : (eqGuard .eql 35 s1 s2 (.agg xs) (.agg ys)).run Tryz.prog w = .ok () w := by
 unfold eqGuard; simp [go_sem]
end
end Go.Proofs.YtkbkalhcdbklkaaGreatDoor
namespace Go.Proofs.YtkbkalhcdbklkaaGreatDoor
section
open Go Go.RowKit
section
variable {ops : Array Oper} {S : World → Prop} {Lq : Act → Prop} {a : Act} {o : Oper} {l : List Oper}
theorem run_eq4 {s1 s2 : Operand} {ty : TypeId} {x y : Nat} {r : Bool} (ho : o.op = .binOp .eql 35 s1 s2 ty) (h1 : a.eval s1 = nv x) (h2 : a.eval s2 = nv y) (hx : x < W4) (hy : y < W4) (hr : decide (x = y) = r) (w : World) :
  (execOp a.eval o).run Tryz.prog w = .ok (.value (.bool r)) w := by
 subst hr
 unfold execOp
 simp only [ho, h1, h2, Sem.run_bind, guard4, Result.andThen_ok, run_eql_struct, eq4 x y hx hy, Sem.run_pure]
theorem Seq.skip {P : Program} (hg : Region.wanted o (yielded ops a.tmps) = false) (h : Seq P ops S Lq l (a.put o.dst undef)) : Seq P ops S Lq (o :: l) a :=
 ⟨undef, .inr ⟨hg, rfl⟩, h⟩
end
end
section
open Go Go.RowKit
theorem two (a b : Nat) (w : World) : ∃ v, v = (w.alloc (A4 a)).alloc (A4 b) ∧ O4 v w.heap.size w.heap.size a ∧ O4 v w.heap.size (w.heap.size + 1) b ∧ Below w.heap.size w v := by
 have s1 : (w.alloc (A4 a)).heap.size = w.heap.size + 1 := by simp
 have ob := O4.new (w := w.alloc (A4 a)) (B := w.heap.size) (by omega) b
 rw [s1] at ob
 exact ⟨_, rfl, (O4.new (w := w) (Nat.le_refl _) a).alloc (A4 b), ob, ((Below.refl _ w).alloc (Nat.le_refl _) _).alloc (by omega) _⟩
def pt1 (z a : Nat) : Nat := if z * z % P25 = a then z else z * IM % P25
def pt2 (z a : Nat) : Nat := if bt (pt1 z a) 0 = 0 then pt1 z a else fsub 0 (pt1 z a)
def ptq (z a : Nat) : Nat := if pt2 z a * pt2 z a % P25 = a then 1 else 0
def ptr (z a : Nat) : Nat := if pt2 z a * pt2 z a % P25 = a then pt2 z a else 0
def z4 : Nat := pm P25 256 4 RE
def z2 : Nat := pm P25 256 2 RE
attribute [local irreducible] wd by8
set_option maxRecDepth 20000
end
section
theorem P25_three : ∃ m, P25 = m + 3 := ⟨P25 - 3, by decide +kernel⟩
theorem dvd_iff {a : Nat} : P25 ∣ a ↔ a % P25 = 0 := ⟨Nat.mod_eq_zero_of_dvd, Nat.dvd_of_mod_eq_zero⟩
theorem ferm {a : Nat} (h : a % P25 ≠ 0) : a ^ (P25 - 1) % P25 = 1 := prP.fermat fun hd => h (dvd_iff.1 hd)
theorem add_neg {a : Nat} (ha : a < W4) : (a + fsub 0 a) % P25 = 0 := by
 unfold fsub
 rw [W4_eq] at *
 rw [P25_lit]
 omega
end
end Go.Proofs.YtkbkalhcdbklkaaGreatDoor
namespace Go.Proofs.YtkbkalhcdbklkaaGreatDoor
section
theorem P_odd : P25 % 2 = 1 := by decide +kernel
theorem two_roots {r x : Nat} (hr : r < P25) (hx : x < P25) (h : r * r % P25 = x * x % P25) : r = x ∨ r + x = P25 := by
 have key : ∀ r x, r < P25 → x < P25 → x ≤ r → r * r % P25 = x * x % P25 → r = x ∨ r + x = P25 := by
  intro r x hr hx hle h
  have h1 : P25 ∣ r * r - x * x := Nat.dvd_of_mod_eq_zero (Nat.sub_mod_eq_zero_of_mod_eq h)
  have h2 : r * r - x * x = (r + x) * (r - x) := by
   obtain ⟨d, rfl⟩ : ∃ d, r = x + d := ⟨r - x, by omega⟩
   have hdx := Nat.mul_comm d x
   have e : (x + d) * (x + d) = x * x + (x + d + x) * d := by simp only [Nat.mul_add, Nat.add_mul]; omega
   rw [show x + d - x = d by omega, e, Nat.add_sub_cancel_left]
  rw [h2] at h1
  rcases prP.mul h1 with h3 | h3
  ·obtain ⟨c, hc⟩ := h3
   rcases (show c = 0 ∨ c = 1 ∨ 2 ≤ c by omega) with rfl | rfl | h4
   ·left; omega
   ·right; omega
   ·have := Nat.mul_le_mul_left P25 h4; omega
  ·obtain ⟨c, hc⟩ := h3
   rcases (show c = 0 ∨ 1 ≤ c by omega) with rfl | h4
   ·left; omega
   ·have := Nat.mul_le_mul_left P25 h4; omega
 rcases Nat.le_total x r with h1 | h1
 ·exact key r x hr hx h1 h
 ·rcases key x r hx hr h1 h.symm with h2 | h2
  ·exact .inl h2.symm
  ·exact .inr (by omega)
theorem fneg_lt {x : Nat} (hx : x < P25) : fsub 0 x = if x = 0 then 0 else P25 - x := by
 unfold fsub
 by_cases h : x = 0
 ·rw [if_pos h, h, Nat.zero_add, Nat.sub_zero, Nat.mul_mod_left]
 ·rw [if_neg h, show 0 + 3 * P25 - x = P25 - x + P25 * 2 by omega, Nat.add_mul_mod_self_left, Nat.mod_eq_of_lt (by omega)]
theorem fneg_sq {x : Nat} (hx : x < P25) : fsub 0 x * fsub 0 x % P25 = x * x % P25 := by
 rw [fneg_lt hx]
 by_cases h : x = 0
 ·rw [if_pos h, h]
 ·rw [if_neg h]
  obtain ⟨d, hd⟩ : ∃ d, P25 = x + d := ⟨P25 - x, by omega⟩
  have e : P25 - x = d := by omega
  have e1 : d * d + P25 * x = x * x + P25 * d := by
   rw [hd, Nat.add_mul, Nat.add_mul, Nat.mul_comm d x]; omega
  rw [e, ← Nat.add_mul_mod_self_left (d * d) P25 x, e1, Nat.add_mul_mod_self_left]
theorem IM_sq : IM * IM % P25 = P25 - 1 := by decide +kernel
theorem RE_four : 4 * RE = (P25 - 1) / 2 + 2 ∧ (P25 - 1) / 2 + (P25 - 1) / 2 = P25 - 1 := by decide +kernel
def HasRoot (y : Nat) : Prop := ∃ z, z * z % P25 = y
theorem rt1_lt (y : Nat) : rt1 y < P25 := by unfold rt1 rt0; split <;> exact Nat.mod_lt _ P25_pos
theorem rt1_sq {y : Nat} (h : HasRoot y) : rt1 y * rt1 y % P25 = y := by
 obtain ⟨z, rfl⟩ := h
 unfold rt1
 by_cases h0 : rt0 (z * z % P25) * rt0 (z * z % P25) % P25 = z * z % P25
 ·rw [if_pos h0]; exact h0
 ·rw [if_neg h0]
  have hx : rt0 (z * z % P25) * rt0 (z * z % P25) % P25 = z ^ ((P25 - 1) / 2) % P25 * (z * z % P25) % P25 := by
   unfold rt0
   rw [← Nat.pow_mod, ← Nat.mul_mod, ← Nat.mul_mod, show z * z = z ^ 2 by rw [Nat.pow_succ, Nat.pow_one], ← Nat.pow_mul, ← Nat.pow_add, show 2 * RE + 2 * RE = 4 * RE by omega, RE_four.1, Nat.pow_add]
  have hz : z % P25 ≠ 0 := by
   intro hz
   apply h0
   have e0 : z * z % P25 = 0 := by rw [Nat.mul_mod, hz]; rfl
   rw [hx, e0, Nat.mul_zero, Nat.zero_mod]
  have hh : z ^ ((P25 - 1) / 2) % P25 * (z ^ ((P25 - 1) / 2) % P25) % P25 = 1 * 1 % P25 := by
   rw [← Nat.mul_mod, ← Nat.pow_add, RE_four.2, ferm hz]
   decide +kernel
  have hlt : z ^ ((P25 - 1) / 2) % P25 < P25 := Nat.mod_lt _ P25_pos
  generalize z ^ ((P25 - 1) / 2) % P25 = u at *
  rcases two_roots hlt (by decide +kernel) hh with h1 | h1
  ·exfalso; apply h0
   rw [hx, h1, Nat.one_mul, Nat.mod_mod]
  ·have hu : u = P25 - 1 := by omega
   have hyl : z * z % P25 < P25 := Nat.mod_lt _ P25_pos
   generalize rt0 (z * z % P25) = r at *
   generalize z * z % P25 = y at *
   rw [← Nat.mul_mod, Nat.mul_mul_mul_comm, Nat.mul_mod, hx, IM_sq, hu]
   rw [Nat.mod_mul_mod]
   have e : (P25 - 1) * y * (P25 - 1) = y + P25 * (y * (P25 - 2)) := by
    obtain ⟨m, hm⟩ := P25_three
    rw [hm, show m + 3 - 1 = m + 2 by omega, show m + 3 - 2 = m + 1 by omega, Nat.mul_right_comm]
    have : (m + 2) * (m + 2) = 1 + (m + 3) * (m + 1) := by simp only [Nat.add_mul, Nat.mul_add]; omega
    rw [this, Nat.add_mul, Nat.one_mul, Nat.mul_assoc, Nat.mul_comm (m + 1) y]
   rw [e, Nat.add_mul_mod_self_left]
   exact Nat.mod_eq_of_lt hyl
theorem rt2_sq {y : Nat} (h : HasRoot y) : rt2 y * rt2 y % P25 = y := by
 unfold rt2
 split
 ·exact rt1_sq h
 ·rw [fneg_sq (rt1_lt y)]; exact rt1_sq h
theorem rtq_iff (y : Nat) : rtq y = 1 ↔ HasRoot y := by
 constructor
 ·intro h
  unfold rtq at h
  by_cases h1 : rt2 y * rt2 y % P25 = y
  ·exact ⟨_, h1⟩
  ·rw [if_neg h1] at h; exact absurd h (by decide)
 ·intro h; unfold rtq; rw [if_pos (rt2_sq h)]
theorem rtr_sq {y : Nat} (h : HasRoot y) : rtr y = rt2 y := by unfold rtr; rw [if_pos (rt2_sq h)]
theorem bt_zero (x : Nat) : bt x 0 = x % 2 := by unfold bt; rw [Nat.pow_zero, Nat.div_one]
theorem rt2_lt (y : Nat) : rt2 y < P25 := by
 unfold rt2; split
 ·exact rt1_lt y
 ·unfold fsub; exact Nat.mod_lt _ P25_pos
theorem rt2_even (y : Nat) : rt2 y % 2 = 0 := by
 have h1 := rt1_lt y
 have h2 := P_odd
 unfold rt2
 by_cases h : bt (rt1 y) 0 = 0
 ·rw [if_pos h]; rw [bt_zero] at h; exact h
 ·rw [if_neg h, fneg_lt h1]
  rw [bt_zero] at h
  by_cases h0 : rt1 y = 0
  ·rw [if_pos h0]
  ·rw [if_neg h0]; omega
end
end Go.Proofs.YtkbkalhcdbklkaaGreatDoor
