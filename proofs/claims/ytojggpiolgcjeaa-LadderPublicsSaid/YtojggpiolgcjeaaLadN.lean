/-
  The ladder in numbers below 2^255 - 19, as the document tells it. Of no program. By an AI agent.
-/
import Derived.Test.YtojggpiolgcjeaaMont2
namespace Go.Proofs.Ytojggpiolgcjeaa
def sbN (x y : Nat) : Nat := (x + (P25 - y)) % P25
def adN (x y : Nat) : Nat := (x + y) % P25
def mlN (x y : Nat) : Nat := x * y % P25
theorem sbN_lt (x y : Nat) : sbN x y < P25 := Nat.mod_lt _ (by decide +kernel)
theorem adN_lt (x y : Nat) : adN x y < P25 := Nat.mod_lt _ (by decide +kernel)
theorem mlN_lt (x y : Nat) : mlN x y < P25 := Nat.mod_lt _ (by decide +kernel)
theorem toF_sbN (x y : Nat) (h : y < P25) : toF (sbN x y) = toF x - toF y := by unfold sbN; rw [toF_mod, toF_sub (Nat.le_of_lt h)]
theorem toF_adN (x y : Nat) : toF (adN x y) = toF x + toF y := by unfold adN; rw [toF_mod, toF_add]
theorem toF_mlN (x y : Nat) : toF (mlN x y) = toF x * toF y := by unfold mlN; rw [toF_mod, toF_mul]
structure SN where
  x2 : Nat
  z2 : Nat
  x3 : Nat
  z3 : Nat
def SN.ok (s : SN) : Prop := s.x2 < P25 ∧ s.z2 < P25 ∧ s.x3 < P25 ∧ s.z3 < P25
def SN.swap (b : Bool) (s : SN) : SN := if b then ⟨s.x3, s.z3, s.x2, s.z2⟩ else s
/-- One step: a, b, da, cb, aa, bb, e as the document names them. -/
def SN.step (u : Nat) (s : SN) : SN :=
  let a := adN s.x2 s.z2
  let b := sbN s.x2 s.z2
  let da := mlN (sbN s.x3 s.z3) a
  let cb := mlN (adN s.x3 s.z3) b
  let aa := mlN a a
  let bb := mlN b b
  let e := sbN aa bb
  ⟨mlN aa bb, mlN e (adN aa (mlN 121665 e)), mlN (adN da cb) (adN da cb), mlN u (mlN (sbN da cb) (sbN da cb))⟩
def SN.toSt (s : SN) : St := ⟨toF s.x2, toF s.z2, toF s.x3, toF s.z3⟩
theorem SN.step_ok (u : Nat) (s : SN) : (s.step u).ok := ⟨mlN_lt _ _, mlN_lt _ _, mlN_lt _ _, mlN_lt _ _⟩
theorem SN.swap_ok {b : Bool} {s : SN} (h : s.ok) : (s.swap b).ok := by
  unfold SN.swap
  split
  · exact ⟨h.2.2.1, h.2.2.2, h.1, h.2.1⟩
  · exact h
theorem SN.swap_to (b : Bool) (s : SN) : (s.swap b).toSt = s.toSt.swap b := by cases b <;> rfl
theorem lit_c : toF 121665 = (121665 : Fp) := rfl
theorem SN.step_to (u : Nat) {s : SN} (h : s.ok) : (s.step u).toSt = s.toSt.step (toF u) := by
  unfold SN.step SN.toSt St.step
  simp only [toF_mlN, toF_adN, toF_sbN _ _ h.2.1, toF_sbN _ _ h.2.2.2, toF_sbN _ _ (mlN_lt _ _), lit_c]
def ladN (u k : Nat) : Nat → SN
  | 0 => ⟨1, 0, u, 1⟩
  | n + 1 => (((ladN u k n).swap (kbit k (254 - n))).step u).swap (kbit k (254 - n))
theorem ladN_ok {u : Nat} (hu : u < P25) (k : Nat) : ∀ n, (ladN u k n).ok
  | 0 => ⟨show 1 < P25 by decide +kernel, show 0 < P25 by decide +kernel, hu, show 1 < P25 by decide +kernel⟩
  | n + 1 => SN.swap_ok (SN.step_ok u _)
theorem ladN_to {u : Nat} (hu : u < P25) (k : Nat) : ∀ n, (ladN u k n).toSt = lad (toF u) k n
  | 0 => rfl
  | n + 1 => by
    show ((((ladN u k n).swap (kbit k (254 - n))).step u).swap (kbit k (254 - n))).toSt = _
    rw [SN.swap_to, SN.step_to u (SN.swap_ok (ladN_ok hu k n)), SN.swap_to, ladN_to hu k n]
    rfl
/-- What the ladder makes, in numbers. -/
def ladderN (u k : Nat) : Nat := mlN (ladN u k 255).x2 ((ladN u k 255).z2 ^ (P25 - 2) % P25)
theorem ladderN_lt (u k : Nat) : ladderN u k < P25 := mlN_lt _ _
theorem inv_to {z : Nat} (hz : z < P25) : toF (z ^ (P25 - 2) % P25) = inv (toF z) := by
  unfold inv
  rw [toF_mod, toF_val, Nat.mod_eq_of_lt hz]
theorem ladderN_to {u : Nat} (hu : u < P25) (k : Nat) : toF (ladderN u k) = ladder (toF u) k := by
  have h := ladN_to hu k 255
  have ho := ladN_ok hu k 255
  unfold ladderN ladder
  rw [toF_mlN, inv_to ho.2.1, ← h]
  rfl
/-- Two that know each one's secret share one number. -/
theorem agreesN {j k : Nat} (hj : j < 2 ^ 255) (hk : k < 2 ^ 255) : ladderN (ladderN 9 k) j = ladderN (ladderN 9 j) k := by
  have h9 : 9 < P25 := by decide +kernel
  have e9 : toF 9 = (9 : Fp) := rfl
  have h := agrees hj hk
  rw [← e9, ← ladderN_to h9, ← ladderN_to h9, ← ladderN_to (ladderN_lt _ _), ← ladderN_to (ladderN_lt _ _), toF_eq, Nat.mod_eq_of_lt (ladderN_lt _ _), Nat.mod_eq_of_lt (ladderN_lt _ _)] at h
  exact h
theorem bit_of (x i : Nat) : by8 x (i / 8) / 2 ^ (i % 8) % 2 = x / 2 ^ i % 2 := by
  have e : i = 8 * (i / 8) + i % 8 := (Nat.div_add_mod i 8).symm
  have hlt := Nat.mod_lt i (show 0 < 8 by decide)
  unfold by8 dgt
  generalize i / 8 = q at *
  generalize i % 8 = r at *
  subst e
  rw [show (256 : Nat) ^ q = 2 ^ (8 * q) by rw [show (256 : Nat) = 2 ^ 8 from rfl, ← Nat.pow_mul], Nat.pow_add, ← Nat.div_div_eq_div_mul]
  generalize x / 2 ^ (8 * q) = y
  have : r = 0 ∨ r = 1 ∨ r = 2 ∨ r = 3 ∨ r = 4 ∨ r = 5 ∨ r = 6 ∨ r = 7 := by omega
  rcases this with rfl | rfl | rfl | rfl | rfl | rfl | rfl | rfl <;> omega
end Go.Proofs.Ytojggpiolgcjeaa
