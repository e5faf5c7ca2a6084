/-
  The ladder's double and add in numbers; the relation that its loop keeps (layer 5). By an AI agent.
-/
import Derived.Test.YtojggpiolgcjeaaK5
import Derived.Test.YtojggpiolgcjeaaK6
import Derived.Test.YtojggpiolgcjeaaQ1
namespace Go.Proofs.Ytojggpiolgcjeaa
open Go Go.RowKit
def dX (x z : Nat) : Nat := (x + z) % P25 * ((x + z) % P25) % P25 * (fsub x z * fsub x z % P25) % P25
def dZ (x z : Nat) : Nat := fsub ((x + z) % P25 * ((x + z) % P25) % P25) (fsub x z * fsub x z % P25) * (((x + z) % P25 * ((x + z) % P25) % P25 + 121665 * fsub ((x + z) % P25 * ((x + z) % P25) % P25) (fsub x z * fsub x z % P25) % P25) % P25) % P25
def aD (p1 p2 q1 q2 : Nat) : Nat := fsub q1 q2 * ((p1 + p2) % P25) % P25
def aC (p1 p2 q1 q2 : Nat) : Nat := (q1 + q2) % P25 * fsub p1 p2 % P25
def aX (p1 p2 q1 q2 : Nat) : Nat := (aD p1 p2 q1 q2 + aC p1 p2 q1 q2) % P25 * ((aD p1 p2 q1 q2 + aC p1 p2 q1 q2) % P25) % P25
def aZ (p1 p2 q1 q2 y : Nat) : Nat := y * (fsub (aD p1 p2 q1 q2) (aC p1 p2 q1 q2) * fsub (aD p1 p2 q1 q2) (aC p1 p2 q1 q2) % P25) % P25
theorem fsub_W (x y : Nat) : fsub x y < W4 := red_W4 _
theorem lit_nv {n : Nat} (h : n < 18446744073709551616) : lit4 n 0 0 0 = nv n := (nv_small h).symm
theorem double_any {x z : Nat} (hx : x < W4) (hz : z < W4) (w : World) : Calls Try.prog 36 #[prv x z] w fun e w' => e = .returned (prv (dX x z) (dZ x z)) ∧ Below w.heap.size w w' := by
  refine double_gen (a := (x + z) % P25) (b := fsub x z) (aa := (x + z) % P25 * ((x + z) % P25) % P25) (bb := fsub x z * fsub x z % P25) (e1 := fsub ((x + z) % P25 * ((x + z) % P25) % P25) (fsub x z * fsub x z % P25))
    (t1 := 121665 * fsub ((x + z) % P25 * ((x + z) % P25) % P25) (fsub x z * fsub x z % P25) % P25)
    (s1 := ((x + z) % P25 * ((x + z) % P25) % P25 + 121665 * fsub ((x + z) % P25 * ((x + z) % P25) % P25) (fsub x z * fsub x z % P25) % P25) % P25)
    (fun w => fadd_any hx hz w) (fun w => fsub_any hx hz w) (fun w => fmul_any (red_W4 _) (red_W4 _) w) (fun w => fmul_any (fsub_W _ _) (fsub_W _ _) w) (fun w => fsub_any (red_W4 _) (red_W4 _) w)
    (fun w => fmul_any (red_W4 _) (red_W4 _) w) (fun w => ?_) (fun w => fadd_any (red_W4 _) (red_W4 _) w) (fun w => fmul_any (fsub_W _ _) (red_W4 _) w) w
  have h := fmul_any (x := 121665) (y := fsub ((x + z) % P25 * ((x + z) % P25) % P25) (fsub x z * fsub x z % P25)) (by decide +kernel) (fsub_W _ _) w
  rw [nv_small (x := 121665) (by decide)] at h
  exact h
theorem addp_any {p1 p2 q1 q2 y : Nat} (h1 : p1 < W4) (h2 : p2 < W4) (h3 : q1 < W4) (h4 : q2 < W4) (hy : y < W4) (w : World) :
    Calls Try.prog 38 #[prv p1 p2, prv q1 q2, nv y] w fun e w' => e = .returned (prv (aX p1 p2 q1 q2) (aZ p1 p2 q1 q2 y)) ∧ Below w.heap.size w w' :=
  add_gen (a1 := fsub q1 q2) (a2 := (p1 + p2) % P25) (da := aD p1 p2 q1 q2) (b1 := (q1 + q2) % P25) (b2 := fsub p1 p2) (cb := aC p1 p2 q1 q2) (s1 := (aD p1 p2 q1 q2 + aC p1 p2 q1 q2) % P25) (s2 := fsub (aD p1 p2 q1 q2) (aC p1 p2 q1 q2))
    (t1 := fsub (aD p1 p2 q1 q2) (aC p1 p2 q1 q2) * fsub (aD p1 p2 q1 q2) (aC p1 p2 q1 q2) % P25)
    (fun w => fsub_any h3 h4 w) (fun w => fadd_any h1 h2 w) (fun w => fmul_any (fsub_W _ _) (red_W4 _) w) (fun w => fadd_any h3 h4 w) (fun w => fsub_any h1 h2 w) (fun w => fmul_any (red_W4 _) (fsub_W _ _) w)
    (fun w => fadd_any (red_W4 _) (red_W4 _) w) (fun w => fsub_any (red_W4 _) (red_W4 _) w) (fun w => fmul_any (red_W4 _) (red_W4 _) w) (fun w => fmul_any (fsub_W _ _) (fsub_W _ _) w) (fun w => fmul_any hy (red_W4 _) w) w
theorem sb_fsub (x : Nat) {y : Nat} (hy : y < W4) : sbN (x % P25) (y % P25) = fsub x y := by
  unfold sbN fsub
  rw [W4_eq] at hy
  rw [P25_lit]
  omega
theorem sb_fsub' {x y : Nat} (hx : x < P25) (hy : y < P25) : sbN x y = fsub x y := by
  have h := sb_fsub x (Nat.lt_trans hy P25_W4)
  rwa [Nat.mod_eq_of_lt hx, Nat.mod_eq_of_lt hy] at h
theorem ad_mod (x y : Nat) : adN (x % P25) (y % P25) = (x + y) % P25 := by unfold adN; rw [← Nat.add_mod]
theorem ml_mod (x y : Nat) : mlN (x % P25) y = x * y % P25 := by unfold mlN; rw [Nat.mul_mod, Nat.mod_mod, ← Nat.mul_mod]
theorem fsub_lt (x y : Nat) : fsub x y < P25 := Nat.mod_lt _ P25_pos
theorem md_lt (x : Nat) : x % P25 < P25 := Nat.mod_lt _ P25_pos
theorem step_code {p1 p2 q1 q2 : Nat} (y : Nat) (h2 : p2 < W4) (h4 : q2 < W4) : SN.step (y % P25) ⟨p1 % P25, p2 % P25, q1 % P25, q2 % P25⟩ = ⟨dX p1 p2, dZ p1 p2, aX p1 p2 q1 q2, aZ p1 p2 q1 q2 y⟩ := by
  have e5 : sbN (mlN ((p1 + p2) % P25) ((p1 + p2) % P25)) (mlN (fsub p1 p2) (fsub p1 p2)) = fsub ((p1 + p2) % P25 * ((p1 + p2) % P25) % P25) (fsub p1 p2 * fsub p1 p2 % P25) := sb_fsub' (mlN_lt _ _) (mlN_lt _ _)
  have e6 : sbN (mlN (fsub q1 q2) ((p1 + p2) % P25)) (mlN ((q1 + q2) % P25) (fsub p1 p2)) = fsub (aD p1 p2 q1 q2) (aC p1 p2 q1 q2) := sb_fsub' (mlN_lt _ _) (mlN_lt _ _)
  unfold SN.step
  simp only [sb_fsub p1 h2, sb_fsub q1 h4, ad_mod, e5, e6, ml_mod y]
  unfold mlN adN dX dZ aX aZ aD aC
  rfl
/-- What the ladder's loop keeps: the pairs stand for the ladder's four numbers; in the last three rounds the first one alone. -/
def Rel (U K n p1 p2 q1 q2 : Nat) : Prop := p1 < W4 ∧ p2 < W4 ∧ q1 < W4 ∧ q2 < W4 ∧ p1 % P25 = (ladN U K n).x2 ∧ p2 % P25 = (ladN U K n).z2 ∧ (n ≤ 252 → q1 % P25 = (ladN U K n).x3 ∧ q2 % P25 = (ladN U K n).z3)
theorem Rel.start {y K : Nat} (hy : y < W4) : Rel (y % P25) K 0 1 0 y 1 :=
  ⟨by decide +kernel, by decide +kernel, hy, by decide +kernel, show 1 % P25 = 1 by decide +kernel, show 0 % P25 = 0 by decide +kernel, fun _ => ⟨rfl, show 1 % P25 = 1 by decide +kernel⟩⟩
theorem dX_lt (x z : Nat) : dX x z < P25 := md_lt _
theorem dZ_lt (x z : Nat) : dZ x z < P25 := md_lt _
theorem aX_lt (p1 p2 q1 q2 : Nat) : aX p1 p2 q1 q2 < P25 := md_lt _
theorem aZ_lt (p1 p2 q1 q2 y : Nat) : aZ p1 p2 q1 q2 y < P25 := md_lt _
theorem ladN_succ (U K n : Nat) : ladN U K (n + 1) = (((ladN U K n).swap (kbit K (254 - n))).step U).swap (kbit K (254 - n)) := rfl
theorem SN.ext_mod {s : SN} {p1 p2 q1 q2 : Nat} (h1 : p1 % P25 = s.x2) (h2 : p2 % P25 = s.z2) (h3 : q1 % P25 = s.x3) (h4 : q2 % P25 = s.z3) : s = ⟨p1 % P25, p2 % P25, q1 % P25, q2 % P25⟩ := by
  cases s; simp_all
theorem Rel.one {y K n p1 p2 q1 q2 : Nat} (h : Rel (y % P25) K n p1 p2 q1 q2) (hn : n < 252) (hb : K / 2 ^ (254 - n) % 2 = 1) :
    Rel (y % P25) K (n + 1) (aX q1 q2 p1 p2) (aZ q1 q2 p1 p2 y) (dX q1 q2) (dZ q1 q2) := by
  obtain ⟨h1, h2, h3, h4, e1, e2, e3⟩ := h
  obtain ⟨e3, e4⟩ := e3 (by omega)
  have hk : kbit K (254 - n) = true := decide_eq_true hb
  have hs : ladN (y % P25) K (n + 1) = ⟨aX q1 q2 p1 p2, aZ q1 q2 p1 p2 y, dX q1 q2, dZ q1 q2⟩ := by
    rw [ladN_succ, hk, SN.ext_mod e1 e2 e3 e4]
    show (SN.step (y % P25) ⟨q1 % P25, q2 % P25, p1 % P25, p2 % P25⟩).swap true = _
    rw [step_code y h4 h2]
    rfl
  have l1 := aX_lt q1 q2 p1 p2
  have l2 := aZ_lt q1 q2 p1 p2 y
  have l3 := dX_lt q1 q2
  have l4 := dZ_lt q1 q2
  exact ⟨Nat.lt_trans l1 P25_W4, Nat.lt_trans l2 P25_W4, Nat.lt_trans l3 P25_W4, Nat.lt_trans l4 P25_W4, by rw [hs, Nat.mod_eq_of_lt l1], by rw [hs, Nat.mod_eq_of_lt l2], fun _ => ⟨by rw [hs, Nat.mod_eq_of_lt l3], by rw [hs, Nat.mod_eq_of_lt l4]⟩⟩
theorem Rel.null {y K n p1 p2 q1 q2 : Nat} (h : Rel (y % P25) K n p1 p2 q1 q2) (hn : n < 252) (hb : ¬ K / 2 ^ (254 - n) % 2 = 1) :
    Rel (y % P25) K (n + 1) (dX p1 p2) (dZ p1 p2) (aX p1 p2 q1 q2) (aZ p1 p2 q1 q2 y) := by
  obtain ⟨h1, h2, h3, h4, e1, e2, e3⟩ := h
  obtain ⟨e3, e4⟩ := e3 (by omega)
  have hk : kbit K (254 - n) = false := decide_eq_false hb
  have hs : ladN (y % P25) K (n + 1) = ⟨dX p1 p2, dZ p1 p2, aX p1 p2 q1 q2, aZ p1 p2 q1 q2 y⟩ := by
    rw [ladN_succ, hk, SN.ext_mod e1 e2 e3 e4]
    show (SN.step (y % P25) ⟨p1 % P25, p2 % P25, q1 % P25, q2 % P25⟩).swap false = _
    rw [step_code y h2 h4]
    rfl
  have l1 := aX_lt p1 p2 q1 q2
  have l2 := aZ_lt p1 p2 q1 q2 y
  have l3 := dX_lt p1 p2
  have l4 := dZ_lt p1 p2
  exact ⟨Nat.lt_trans l3 P25_W4, Nat.lt_trans l4 P25_W4, Nat.lt_trans l1 P25_W4, Nat.lt_trans l2 P25_W4, by rw [hs, Nat.mod_eq_of_lt l3], by rw [hs, Nat.mod_eq_of_lt l4], fun _ => ⟨by rw [hs, Nat.mod_eq_of_lt l1], by rw [hs, Nat.mod_eq_of_lt l2]⟩⟩
theorem Rel.last {y K n p1 p2 q1 q2 : Nat} (h : Rel (y % P25) K n p1 p2 q1 q2) (hn : 252 ≤ n) (hb : ¬ K / 2 ^ (254 - n) % 2 = 1) :
    Rel (y % P25) K (n + 1) (dX p1 p2) (dZ p1 p2) q1 q2 := by
  obtain ⟨h1, h2, h3, h4, e1, e2, -⟩ := h
  have hk : kbit K (254 - n) = false := decide_eq_false hb
  have l3 := dX_lt p1 p2
  have l4 := dZ_lt p1 p2
  have hs : (ladN (y % P25) K (n + 1)).x2 = dX p1 p2 ∧ (ladN (y % P25) K (n + 1)).z2 = dZ p1 p2 := by
    rw [ladN_succ, hk]
    have hx : ∀ s : SN, ((s.swap false).step (y % P25)).swap false = s.step (y % P25) := fun _ => rfl
    rw [hx]
    have hok := ladN_ok (md_lt y) K n
    generalize ladN (y % P25) K n = s at *
    obtain ⟨a, b, c, d⟩ := s
    obtain ⟨-, -, hc, hd⟩ : a < P25 ∧ b < P25 ∧ c < P25 ∧ d < P25 := hok
    simp only at e1 e2
    have := step_code (p1 := p1) (p2 := p2) (q1 := c) (q2 := d) y h2 (Nat.lt_trans hd P25_W4)
    rw [Nat.mod_eq_of_lt hc, Nat.mod_eq_of_lt hd, e1, e2] at this
    rw [this]
    exact ⟨rfl, rfl⟩
  exact ⟨Nat.lt_trans l3 P25_W4, Nat.lt_trans l4 P25_W4, h3, h4, by rw [hs.1, Nat.mod_eq_of_lt l3], by rw [hs.2, Nat.mod_eq_of_lt l4], fun h => by omega⟩
theorem Rel.both {y K n p1 p2 q1 q2 bt a1 a2 b1 b2 : Nat} (h : Rel (y % P25) K n p1 p2 q1 q2) (hn : n < 252) (hb : K / 2 ^ (254 - n) % 2 = bt)
    (e1 : a1 = if bt = 1 then q1 else p1) (e2 : a2 = if bt = 1 then q2 else p2) (e3 : b1 = if bt = 1 then p1 else q1) (e4 : b2 = if bt = 1 then p2 else q2) :
    a1 < W4 ∧ a2 < W4 ∧ b1 < W4 ∧ b2 < W4 ∧ Rel (y % P25) K (n + 1) (if bt = 1 then aX a1 a2 b1 b2 else dX a1 a2) (if bt = 1 then aZ a1 a2 b1 b2 y else dZ a1 a2) (if bt = 1 then dX a1 a2 else aX a1 a2 b1 b2) (if bt = 1 then dZ a1 a2 else aZ a1 a2 b1 b2 y) := by
  obtain ⟨h1, h2, h3, h4, -⟩ := id h
  subst hb
  by_cases hk : K / 2 ^ (254 - n) % 2 = 1
  · rw [if_pos hk] at e1 e2 e3 e4
    subst e1 e2 e3 e4
    rw [if_pos hk, if_pos hk, if_pos hk, if_pos hk]
    exact ⟨h3, h4, h1, h2, h.one hn hk⟩
  · rw [if_neg hk] at e1 e2 e3 e4
    subst e1 e2 e3 e4
    rw [if_neg hk, if_neg hk, if_neg hk, if_neg hk]
    exact ⟨h1, h2, h3, h4, h.null hn hk⟩
/-- The end: the first pair's quotient. -/
theorem Rel.end {y K p1 p2 q1 q2 : Nat} (h : Rel (y % P25) K 255 p1 p2 q1 q2) : p1 * (p2 ^ (P25 - 2) % P25) % P25 = ladderN (y % P25) K := by
  obtain ⟨-, -, -, -, e1, e2, -⟩ := h
  unfold ladderN
  rw [← e1, ← e2, ml_mod, ← Nat.pow_mod]
theorem low_null {x at_ : Nat} (h : at_ < 3) : ¬ clam x / 2 ^ at_ % 2 = 1 := by
  unfold clam
  have : at_ = 0 ∨ at_ = 1 ∨ at_ = 2 := by omega
  rcases this with rfl | rfl | rfl <;> simp only [Nat.reducePow] <;> omega
end Go.Proofs.Ytojggpiolgcjeaa
