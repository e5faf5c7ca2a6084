/-
  The document's root (layer 6), over letters. By an AI agent. The document's primes and numbers (layer 6). By an AI agent. The document's Kind as a value (layer 6); cut, shift, turn. By an AI agent. The document's shift and turn (layer 6). By an AI agent. Turning by halves is turning at once (layer 6). Of no program. By an AI agent.
-/
import Derived.Test.YtgaofocjnifjdaaDoorJ03
import Derived.Deep.MidRow
namespace Go.Proofs.YtgaofocjnifjdaaDoor
open Go Go.RowKit
/-- The root's bits, from the highest: what stands behind k of them. -/
def gr (p e : Nat) : Nat → Nat
  | 0 => 0
  | k + 1 => if p * 65536 ^ (4 * e) < (gr p e k + 2 ^ (79 - k)) ^ e then gr p e k else gr p e k + 2 ^ (79 - k)
attribute [local irreducible] d6 gr
end Go.Proofs.YtgaofocjnifjdaaDoor
namespace Go.Proofs.YtgaofocjnifjdaaDoor
open Go Go.RowKit
/-- The primes among 2 .. n + 1, by what divides. -/
def pr : Nat → List Nat
  | 0 => []
  | n + 1 => if (pr n).all (fun d => (n + 2) % d != 0) then pr n ++ [n + 2] else pr n
def iv (L : List Nat) (k : Nat) : Value := .int .i64 ((L.getD k 0 : Nat) : Int)
def uv (L : List Nat) (k : Nat) : Value := .int .u64 ((L.getD k 0 : Nat) : Int)
end Go.Proofs.YtgaofocjnifjdaaDoor
namespace Go.Proofs.YtgaofocjnifjdaaDoor
open Go Go.RowKit
/-- One of both sums: bits of a word, rounds, turns, the rounds' numbers, the words at first. -/
structure Ks where
  bits : Nat
  rounds : Nat
  u : Nat × Nat × Nat
  d : Nat × Nat × Nat
  e : Nat × Nat × Nat
  l : Nat × Nat × Nat
  keys : List Nat
  first : List Nat
/-- .. as it lies in memory. -/
structure Kd extends Ks where
  ka : Option Addr
  kc : Nat
  fa : Option Addr
  fc : Nat
def Kd.cells (K : Kd) : List Value := [.int .i64 (K.bits : Int), .int .i64 (K.rounds : Int), .int .i64 (K.u.1 : Int), .int .i64 (K.u.2.1 : Int), .int .i64 (K.u.2.2 : Int), .int .i64 (K.d.1 : Int), .int .i64 (K.d.2.1 : Int), .int .i64 (K.d.2.2 : Int),
  .int .i64 (K.e.1 : Int), .int .i64 (K.e.2.1 : Int), .int .i64 (K.e.2.2 : Int), .int .i64 (K.l.1 : Int), .int .i64 (K.l.2.1 : Int), .int .i64 (K.l.2.2 : Int), .slice K.ka K.keys.length K.kc, .slice K.fa K.first.length K.fc]
def kf (K : Kd) (i : Nat) : Value := K.cells.getD i undef
theorem Kd.map (K : Kd) : K.cells = (List.range 16).map (kf K) := rfl
abbrev kv (K : Kd) : Value := .agg K.cells.toArray
section
variable {w w' : World} {B g : Nat} {K : Kd}
end
section
variable {ops : Array Oper} {rest : List Oper} {a : Act} {w : World} {Q : Exit → Act → World → Prop} {B g : Nat} {K : Kd} {dst : Option Nat} {tp : TypeId} {ps : String} {af : Array Edge} {x y : Operand} {o : Oper}
end
def cutN (K : Ks) (x : Nat) : Nat := if K.bits = 32 then x % 4294967296 else x
attribute [local irreducible] Kd.cells kf
set_option maxRecDepth 20000
end Go.Proofs.YtgaofocjnifjdaaDoor
namespace Go.Proofs.YtgaofocjnifjdaaDoor
open Go Go.RowKit
def rot1 (b x : Nat) : Nat := x / 2 + x % 2 * 2 ^ (b - 1)
def rotN (b x : Nat) : Nat → Nat
  | 0 => x
  | n + 1 => rot1 b (rotN b x n)
theorem rot1_lt {b x : Nat} (hb : 0 < b) (hx : x < 2 ^ b) : rot1 b x < 2 ^ b := by
  obtain ⟨c, rfl⟩ : ∃ c, b = c + 1 := ⟨b - 1, by omega⟩
  unfold rot1
  rw [Nat.add_sub_cancel]
  rw [Nat.pow_succ] at hx ⊢
  have h := Nat.mod_lt x (show 0 < 2 by decide)
  have : x % 2 = 0 ∨ x % 2 = 1 := by omega
  rcases this with h | h <;> rw [h] <;> omega
theorem rotN_lt {b x : Nat} (hb : 0 < b) (hx : x < 2 ^ b) : ∀ n, rotN b x n < 2 ^ b
  | 0 => hx
  | n + 1 => rot1_lt hb (rotN_lt hb hx n)
def hi2 (k : Nat) : Nat := 2 ^ (k - 1)
def sh2 (x k : Nat) : Nat := x / 2 ^ k
theorem rotN_zero (b x : Nat) : rotN b x 0 = x := rfl
theorem rotN_hi (b x m : Nat) : rotN b x (m + 1) = rotN b x m / 2 + rotN b x m % 2 * hi2 b := rfl
theorem sh2_le (x k : Nat) : sh2 x k ≤ x := Nat.div_le_self _ _
attribute [local irreducible] Kd.cells kf hi2 sh2 rotN
set_option maxRecDepth 20000
end Go.Proofs.YtgaofocjnifjdaaDoor
namespace Go.Proofs.YtgaofocjnifjdaaDoor
theorem half_add (a c : Nat) : (a + 2 * c) / 2 = a / 2 + c ∧ (a + 2 * c) % 2 = a % 2 := by omega
theorem rotN_is {b x : Nat} : ∀ n, n ≤ b → rotN b x n = x / 2 ^ n + x % 2 ^ n * 2 ^ (b - n)
  | 0, _ => by rw [rotN_zero]; simp [Nat.mod_one]
  | n + 1, h => by
    rw [rotN_hi, rotN_is n (by omega)]
    obtain ⟨c, hc⟩ : ∃ c, b - n = c + 1 := ⟨b - n - 1, by omega⟩
    have e1 : b - (n + 1) = c := by omega
    have e2 : b - 1 = n + c := by omega
    have hh : hi2 b = 2 ^ n * 2 ^ c := by unfold hi2; rw [e2, Nat.pow_add]
    rw [hh, hc, e1, Nat.pow_succ 2 c]
    have e3 : x % 2 ^ n * (2 ^ c * 2) = 2 * (x % 2 ^ n * 2 ^ c) := by rw [← Nat.mul_assoc, Nat.mul_comm]
    rw [e3, (half_add _ _).1, (half_add _ _).2, Nat.div_div_eq_div_mul, ← Nat.pow_succ, Nat.mod_pow_succ, Nat.add_mul, Nat.mul_comm (2 ^ n) (x / 2 ^ n % 2), Nat.mul_assoc, Nat.add_assoc]
/-- .. as the code's words have it: what goes out below comes in above. -/
theorem rotN_or {b x n : Nat} (hx : x < 2 ^ b) (hn : n ≤ b) : rotN b x n = (x / 2 ^ n) ||| (x * 2 ^ (b - n) % 2 ^ b) := by
  have h1 : x * 2 ^ (b - n) % 2 ^ b = x % 2 ^ n * 2 ^ (b - n) := by
    rw [show (2 : Nat) ^ b = 2 ^ n * 2 ^ (b - n) by rw [← Nat.pow_add]; congr 1; omega, Nat.mul_mod_mul_right]
  have h2 : x / 2 ^ n < 2 ^ (b - n) := by
    refine Nat.div_lt_of_lt_mul ?_
    rw [← Nat.pow_add, show n + (b - n) = b by omega]
    exact hx
  rw [rotN_is n hn, h1, Nat.mul_comm (x % 2 ^ n), Nat.add_comm, Nat.two_pow_add_eq_or_of_lt h2, Nat.or_comm]
end Go.Proofs.YtgaofocjnifjdaaDoor
