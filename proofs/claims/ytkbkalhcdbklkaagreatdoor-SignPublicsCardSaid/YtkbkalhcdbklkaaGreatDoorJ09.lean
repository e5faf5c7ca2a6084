/-
  ! '==' and '!=' over numbers, by a law (the walk's own steps over a great frame run the kernel out of memory).  ! What holds modulo the prime. - The slice at 'A', of 'n' scalars, reads as the numbers 'f 0', 'f 1' .., in a block below 'B'. 
-/
import Derived.Test.YtkbkalhcdbklkaaGreatDoorMG
import Derived.Test.YtkbkalhcdbklkaaGreatDoorMB
import Derived.Test.YtkbkalhcdbklkaaGreatDoorS3
namespace Go.Proofs.YtkbkalhcdbklkaaGreatDoor
open Go Go.RowKit
/-! '==' and '!=' over numbers, by a law (the walk's own steps over a great frame run the kernel out of memory). -/
section
variable {P : Program}
end
theorem guard4 (s1 s2 : Operand) (xs ys : Array Value) (w : World) : (eqGuard .eql 35 s1 s2 (.agg xs) (.agg ys)).run Tryz.prog w = .ok () w := by
  unfold eqGuard; simp [go_sem]
end Go.Proofs.YtkbkalhcdbklkaaGreatDoor
namespace Go.Proofs.YtkbkalhcdbklkaaGreatDoor
open Go Go.RowKit
section
variable {ops : Array Oper} {S : World → Prop} {Lq : Act → Prop} {a : Act} {o : Oper} {l : List Oper}
/-- '==' and '!=' over numbers, as one operation of a region that draws its order. -/
theorem run_eq4 {s1 s2 : Operand} {ty : TypeId} {x y : Nat} {r : Bool} (ho : o.op = .binOp .eql 35 s1 s2 ty) (h1 : a.eval s1 = nv x) (h2 : a.eval s2 = nv y) (hx : x < W4) (hy : y < W4) (hr : decide (x = y) = r) (w : World) :
    (execOp a.eval o).run Tryz.prog w = .ok (.value (.bool r)) w := by
  subst hr
  unfold execOp
  simp only [ho, h1, h2, Sem.run_bind, guard4, Result.andThen_ok, run_eql_struct, eq4 x y hx hy, Sem.run_pure]
theorem Seq.skip {P : Program} (hg : Region.wanted o (yielded ops a.tmps) = false) (h : Seq P ops S Lq l (a.put o.dst undef)) : Seq P ops S Lq (o :: l) a :=
  ⟨undef, .inr ⟨hg, rfl⟩, h⟩
end
end Go.Proofs.YtkbkalhcdbklkaaGreatDoor
namespace Go.Proofs.YtkbkalhcdbklkaaGreatDoor
open Go Go.RowKit
theorem two (a b : Nat) (w : World) : ∃ v, v = (w.alloc (A4 a)).alloc (A4 b) ∧ O4 v w.heap.size w.heap.size a ∧ O4 v w.heap.size (w.heap.size + 1) b ∧ Below w.heap.size w v := by
  have s1 : (w.alloc (A4 a)).heap.size = w.heap.size + 1 := by simp
  have ob := O4.new (w := w.alloc (A4 a)) (B := w.heap.size) (by omega) b
  rw [s1] at ob
  exact ⟨_, rfl, (O4.new (w := w) (Nat.le_refl _) a).alloc (A4 b), ob, ((Below.refl _ w).alloc (Nat.le_refl _) _).alloc (by omega) _⟩
def pt1 (z a : Nat) : Nat := if z * z % P25 = a then z else z * IM % P25
def pt2 (z a : Nat) : Nat := if bt (pt1 z a) 0 = 0 then pt1 z a else fsub 0 (pt1 z a)
def ptq (z a : Nat) : Nat := if pt2 z a * pt2 z a % P25 = a then 1 else 0
def ptr (z a : Nat) : Nat := if pt2 z a * pt2 z a % P25 = a then pt2 z a else 0
def z4 : Nat := pm P25 256 4 RE
def z2 : Nat := pm P25 256 2 RE
attribute [local irreducible] wd by8
set_option maxRecDepth 20000
end Go.Proofs.YtkbkalhcdbklkaaGreatDoor
namespace Go.Proofs.YtkbkalhcdbklkaaGreatDoor
/-! What holds modulo the prime. -/
theorem P25_three : ∃ m, P25 = m + 3 := ⟨P25 - 3, by decide +kernel⟩
theorem dvd_iff {a : Nat} : P25 ∣ a ↔ a % P25 = 0 := ⟨Nat.mod_eq_zero_of_dvd, Nat.dvd_of_mod_eq_zero⟩
theorem ferm {a : Nat} (h : a % P25 ≠ 0) : a ^ (P25 - 1) % P25 = 1 := prP.fermat fun hd => h (dvd_iff.1 hd)
end Go.Proofs.YtkbkalhcdbklkaaGreatDoor

namespace Go.Proofs.YtkbkalhcdbklkaaGreatDoor
/-! Roots modulo the prime. -/
theorem P_odd : P25 % 2 = 1 := by decide +kernel
theorem two_roots {r x : Nat} (hr : r < P25) (hx : x < P25) (h : r * r % P25 = x * x % P25) : r = x ∨ r + x = P25 := by
  have key : ∀ r x, r < P25 → x < P25 → x ≤ r → r * r % P25 = x * x % P25 → r = x ∨ r + x = P25 := by
    intro r x hr hx hle h
    have h1 : P25 ∣ r * r - x * x := Nat.dvd_of_mod_eq_zero (Nat.sub_mod_eq_zero_of_mod_eq h)
    have h2 : r * r - x * x = (r + x) * (r - x) := by
      obtain ⟨d, rfl⟩ : ∃ d, r = x + d := ⟨r - x, by omega⟩
      have hdx := Nat.mul_comm d x
      have e : (x + d) * (x + d) = x * x + (x + d + x) * d := by simp only [Nat.mul_add, Nat.add_mul]; omega
      rw [show x + d - x = d by omega, e, Nat.add_sub_cancel_left]
    rw [h2] at h1
    rcases prP.mul h1 with h3 | h3
    · obtain ⟨c, hc⟩ := h3
      rcases (show c = 0 ∨ c = 1 ∨ 2 ≤ c by omega) with rfl | rfl | h4
      · left; omega
      · right; omega
      · have := Nat.mul_le_mul_left P25 h4; omega
    · obtain ⟨c, hc⟩ := h3
      rcases (show c = 0 ∨ 1 ≤ c by omega) with rfl | h4
      · left; omega
      · have := Nat.mul_le_mul_left P25 h4; omega
  rcases Nat.le_total x r with h1 | h1
  · exact key r x hr hx h1 h
  · rcases key x r hx hr h1 h.symm with h2 | h2
    · exact .inl h2.symm
    · exact .inr (by omega)
theorem fneg_lt {x : Nat} (hx : x < P25) : fsub 0 x = if x = 0 then 0 else P25 - x := by
  unfold fsub
  by_cases h : x = 0
  · rw [if_pos h, h, Nat.zero_add, Nat.sub_zero, Nat.mul_mod_left]
  · rw [if_neg h, show 0 + 3 * P25 - x = P25 - x + P25 * 2 by omega, Nat.add_mul_mod_self_left, Nat.mod_eq_of_lt (by omega)]
theorem fneg_sq {x : Nat} (hx : x < P25) : fsub 0 x * fsub 0 x % P25 = x * x % P25 := by
  rw [fneg_lt hx]
  by_cases h : x = 0
  · rw [if_pos h, h]
  · rw [if_neg h]
    obtain ⟨d, hd⟩ : ∃ d, P25 = x + d := ⟨P25 - x, by omega⟩
    have e : P25 - x = d := by omega
    have e1 : d * d + P25 * x = x * x + P25 * d := by
      rw [hd, Nat.add_mul, Nat.add_mul, Nat.mul_comm d x]; omega
    rw [e, ← Nat.add_mul_mod_self_left (d * d) P25 x, e1, Nat.add_mul_mod_self_left]
theorem IM_sq : IM * IM % P25 = P25 - 1 := by decide +kernel
theorem RE_four : 4 * RE = (P25 - 1) / 2 + 2 ∧ (P25 - 1) / 2 + (P25 - 1) / 2 = P25 - 1 := by decide +kernel
def HasRoot (y : Nat) : Prop := ∃ z, z * z % P25 = y
theorem rt1_lt (y : Nat) : rt1 y < P25 := by unfold rt1 rt0; split <;> exact Nat.mod_lt _ P25_pos
theorem rt1_sq {y : Nat} (h : HasRoot y) : rt1 y * rt1 y % P25 = y := by
  obtain ⟨z, rfl⟩ := h
  unfold rt1
  by_cases h0 : rt0 (z * z % P25) * rt0 (z * z % P25) % P25 = z * z % P25
  · rw [if_pos h0]; exact h0
  · rw [if_neg h0]
    have hx : rt0 (z * z % P25) * rt0 (z * z % P25) % P25 = z ^ ((P25 - 1) / 2) % P25 * (z * z % P25) % P25 := by
      unfold rt0
      rw [← Nat.pow_mod, ← Nat.mul_mod, ← Nat.mul_mod, show z * z = z ^ 2 by rw [Nat.pow_succ, Nat.pow_one], ← Nat.pow_mul, ← Nat.pow_add, show 2 * RE + 2 * RE = 4 * RE by omega, RE_four.1, Nat.pow_add]
    have hz : z % P25 ≠ 0 := by
      intro hz
      apply h0
      have e0 : z * z % P25 = 0 := by rw [Nat.mul_mod, hz]; rfl
      rw [hx, e0, Nat.mul_zero, Nat.zero_mod]
    have hh : z ^ ((P25 - 1) / 2) % P25 * (z ^ ((P25 - 1) / 2) % P25) % P25 = 1 * 1 % P25 := by
      rw [← Nat.mul_mod, ← Nat.pow_add, RE_four.2, ferm hz]
      decide +kernel
    have hlt : z ^ ((P25 - 1) / 2) % P25 < P25 := Nat.mod_lt _ P25_pos
    generalize z ^ ((P25 - 1) / 2) % P25 = u at *
    rcases two_roots hlt (by decide +kernel) hh with h1 | h1
    · exfalso; apply h0
      rw [hx, h1, Nat.one_mul, Nat.mod_mod]
    · have hu : u = P25 - 1 := by omega
      have hyl : z * z % P25 < P25 := Nat.mod_lt _ P25_pos
      generalize rt0 (z * z % P25) = r at *
      generalize z * z % P25 = y at *
      rw [← Nat.mul_mod, Nat.mul_mul_mul_comm, Nat.mul_mod, hx, IM_sq, hu]
      rw [Nat.mod_mul_mod]
      have e : (P25 - 1) * y * (P25 - 1) = y + P25 * (y * (P25 - 2)) := by
        obtain ⟨m, hm⟩ := P25_three
        rw [hm, show m + 3 - 1 = m + 2 by omega, show m + 3 - 2 = m + 1 by omega, Nat.mul_right_comm]
        have : (m + 2) * (m + 2) = 1 + (m + 3) * (m + 1) := by simp only [Nat.add_mul, Nat.mul_add]; omega
        rw [this, Nat.add_mul, Nat.one_mul, Nat.mul_assoc, Nat.mul_comm (m + 1) y]
      rw [e, Nat.add_mul_mod_self_left]
      exact Nat.mod_eq_of_lt hyl
theorem rt2_sq {y : Nat} (h : HasRoot y) : rt2 y * rt2 y % P25 = y := by
  unfold rt2
  split
  · exact rt1_sq h
  · rw [fneg_sq (rt1_lt y)]; exact rt1_sq h
theorem rtq_iff (y : Nat) : rtq y = 1 ↔ HasRoot y := by
  constructor
  · intro h
    unfold rtq at h
    by_cases h1 : rt2 y * rt2 y % P25 = y
    · exact ⟨_, h1⟩
    · rw [if_neg h1] at h; exact absurd h (by decide)
  · intro h; unfold rtq; rw [if_pos (rt2_sq h)]
theorem rtr_sq {y : Nat} (h : HasRoot y) : rtr y = rt2 y := by unfold rtr; rw [if_pos (rt2_sq h)]
theorem bt_zero (x : Nat) : bt x 0 = x % 2 := by unfold bt; rw [Nat.pow_zero, Nat.div_one]
theorem rt2_lt (y : Nat) : rt2 y < P25 := by
  unfold rt2; split
  · exact rt1_lt y
  · unfold fsub; exact Nat.mod_lt _ P25_pos
theorem rt2_even (y : Nat) : rt2 y % 2 = 0 := by
  have h1 := rt1_lt y
  have h2 := P_odd
  unfold rt2
  by_cases h : bt (rt1 y) 0 = 0
  · rw [if_pos h]; rw [bt_zero] at h; exact h
  · rw [if_neg h, fneg_lt h1]
    rw [bt_zero] at h
    by_cases h0 : rt1 y = 0
    · rw [if_pos h0]
    · rw [if_neg h0]; omega
end Go.Proofs.YtkbkalhcdbklkaaGreatDoor
namespace Go.Proofs.YtkbkalhcdbklkaaGreatDoor
open Go Go.RowKit
/-- The slice at 'A', of 'n' scalars, reads as the numbers 'f 0', 'f 1' .., in a block below 'B'. -/
structure RdS (w : World) (B : Nat) (A : Option Addr) (n : Nat) (f : Nat → Nat) : Prop where
  nil : A = none → n = 0
  some_ : 0 < n → ∃ b o, A = some ⟨b, o, none⟩ ∧ b < B ∧ ∀ k, k < n → ∀ j, j < 4 → w.cell? ⟨b, o + k * 4 + j, none⟩ = some (.int .u64 (wd (f k) j : Int))
section
variable {w w' : World} {B B' n : Nat} {A : Option Addr} {f : Nat → Nat}
theorem RdS.keep (h : RdS w B A n f) (hb : Below B w w') : RdS w' B A n f :=
  ⟨h.nil, fun hn => by
    obtain ⟨b, o, e, hlt, hc⟩ := h.some_ hn
    exact ⟨b, o, e, hlt, fun k hk j hj => (hb.cell (p := ⟨b, o + k * 4 + j, none⟩) hlt).trans (hc k hk j hj)⟩⟩
theorem RdS.mono (h : RdS w B A n f) (hb : B ≤ B') : RdS w B' A n f :=
  ⟨h.nil, fun hn => by
    obtain ⟨b, o, e, hlt, hc⟩ := h.some_ hn
    exact ⟨b, o, e, by omega, hc⟩⟩
theorem RdS.at_ {k : Nat} (h : RdS w B A n f) (hk : k < n) : ∃ b o, A = some ⟨b, o, none⟩ ∧ b < B ∧ w.cell? ⟨b, o + k * 4, none⟩ = some (.int .u64 (wd (f k) 0 : Int)) ∧ w.cell? ⟨b, o + k * 4 + 1, none⟩ = some (.int .u64 (wd (f k) 1 : Int)) ∧
    w.cell? ⟨b, o + k * 4 + 2, none⟩ = some (.int .u64 (wd (f k) 2 : Int)) ∧ w.cell? ⟨b, o + k * 4 + 3, none⟩ = some (.int .u64 (wd (f k) 3 : Int)) := by
  obtain ⟨b, o, e, hlt, hc⟩ := h.some_ (by omega)
  exact ⟨b, o, e, hlt, hc k hk 0 (by decide), hc k hk 1 (by decide), hc k hk 2 (by decide), hc k hk 3 (by decide)⟩
end
def foldS (f : Nat → Nat) : Nat → Nat
  | 0 => 0
  | k + 1 => (foldS f k + f k) % LL
def foldM (f : Nat → Nat) : Nat → Nat
  | 0 => 1
  | k + 1 => foldM f k * f k % LL
abbrev OE (e : TypeId) : Obj := .cells #[.int .u64 1, .int .u64 0, .int .u64 0, .int .u64 0] e
theorem T4.one {w : World} {B : Nat} (hB : B ≤ w.heap.size) (e : TypeId) : T4 (w.alloc (OE e)) B w.heap.size 1 := by
  have h : ∀ k, 1 ≤ k → wd 1 k = 0 := fun k hk => dgt_zero_of_lt (Nat.lt_of_lt_of_le (show 1 < 18446744073709551616 ^ 1 by decide) (Nat.pow_le_pow_right (by decide) hk))
  have h0 : wd 1 0 = 1 := by simp [wd, dgt]
  refine ⟨e, OwnF.lit e hB _ 4 (wv 1) (by decide) ?_⟩
  simp [List.range_succ, wv, h0, h 1 (by decide), h 2 (by decide), h 3 (by decide)]
attribute [local irreducible] wd by8 foldS foldM
set_option maxRecDepth 20000
end Go.Proofs.YtkbkalhcdbklkaaGreatDoor
namespace Go.Proofs.YtkbkalhcdbklkaaGreatDoor
open Go Go.RowKit
section
variable {a : Act} {o : Oper}
end
def lit12 (k : Nat) : Value := .int .u64 (wd (k / 4 + 2) (k % 4) : Int)
attribute [local irreducible] wd by8
set_option maxRecDepth 20000
end Go.Proofs.YtkbkalhcdbklkaaGreatDoor
