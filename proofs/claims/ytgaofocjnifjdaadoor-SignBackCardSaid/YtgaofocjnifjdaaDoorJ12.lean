/-
  ! Digits that may be great: what they are worth, what is carried. - The sum's digits: the first k of them are added.
-/
import Derived.Test.YtgaofocjnifjdaaDoorJ01
import Derived.Test.YtgaofocjnifjdaaDoorJ10
import Derived.Test.YtgaofocjnifjdaaDoorJ03
import Derived.Test.YtgaofocjnifjdaaDoorJ03
namespace Go.Proofs.YtgaofocjnifjdaaDoor
open Go Go.RowKit
attribute [local irreducible] wd by8 d16 set16w fl
set_option maxRecDepth 20000
end Go.Proofs.YtgaofocjnifjdaaDoor

namespace Go.Proofs.YtgaofocjnifjdaaDoor
open Go Go.RowKit
/-! Digits that may be great: what they are worth, what is carried. -/
def val (c : Nat) (f : Nat → Nat) : Nat → Nat
  | 0 => c
  | n + 1 => val c f n + 65536 ^ n * f n
def cyr (c : Nat) (f : Nat → Nat) (i : Nat) : Nat := val c f i / 65536 ^ i
def BB : Nat := 70368744177664
/-- One pass: 2^256 counts as 38. -/
def GG (v : Nat) : Nat := v % W4 + 38 * (v / W4)
def FF (f : Nat → Nat) : Nat → Nat → Nat
  | 0 => f
  | n + 1 => fun j => d16 (val 0 (FF f n) 16) j + if j = 0 then 38 * (val 0 (FF f n) 16 / W4) else 0
/-- The second kind of pass: 2^255 counts as 19. -/
def HH (v : Nat) : Nat := 19 * (v / H25) + v % H25
end Go.Proofs.YtgaofocjnifjdaaDoor

namespace Go.Proofs.YtgaofocjnifjdaaDoor
open Go Go.RowKit
attribute [local irreducible] wd by8 d16 set16w fl
set_option maxRecDepth 20000
end Go.Proofs.YtgaofocjnifjdaaDoor

namespace Go.Proofs.YtgaofocjnifjdaaDoor
open Go Go.RowKit
/-- An array of sixteen digits, great or not. -/
def gl (f : Nat → Nat) : List Value := (List.range 16).map fun j => .int .i64 (f j : Int)
def nvf (f : Nat → Nat) (j : Nat) : Value := .int .i64 (f j : Int)
/-- The k first of the digits are settled. -/
def psv (c : Nat) (f : Nat → Nat) (k j : Nat) : Value := .int .i64 ((if j < k then d16 (val c f 16) j else f j : Nat) : Int)
def Hn (v : Nat) : Nat → Nat
  | 0 => v
  | n + 1 => HH (Hn v n)
attribute [local irreducible] wd by8 d16 set16w fl val cyr FF gl
set_option maxRecDepth 20000
end Go.Proofs.YtgaofocjnifjdaaDoor

namespace Go.Proofs.YtgaofocjnifjdaaDoor
open Go Go.RowKit
section
variable {ops : Array Oper} {rest : List Oper} {a : Act} {w : World} {Q : Exit → Act → World → Prop} {B g : Nat} {f : Nat → Nat} {dst : Option Nat} {tp : TypeId} {ps : String} {af : Array Edge} {x y : Operand}
end
theorem val_bump (f : Nat → Nat) (m e : Nat) : ∀ n, val 0 (fun j => if j = m then f j + e else f j) n = val 0 f n + if m < n then 65536 ^ m * e else 0
  | 0 => by simp [val]
  | n + 1 => by
    rw [val, val, val_bump f m e n]
    by_cases h : n = m
    · subst h; rw [if_pos rfl, if_neg (by omega), if_pos (by omega), Nat.mul_add]; omega
    · rw [if_neg h]
      by_cases h2 : m < n
      · rw [if_pos h2, if_pos (by omega)]; omega
      · rw [if_neg h2, if_neg (by omega)]; omega
/-- A product's digits folded: 2^256 counts as 38. -/
def fold (D : Nat → Nat) (j : Nat) : Nat := D j + if j + 16 < 31 then 38 * D (j + 16) else 0
def SQ : Nat := 4294836225
/-- The products' digits, when i digits of x and k of y have been reckoned. -/
structure Conv (x y i k : Nat) (D : Nat → Nat) : Prop where
  le : ∀ j, D j ≤ (16 * i + k) * SQ
  eq : val 0 D 31 = (x % 65536 ^ i) * y + 65536 ^ i * (d16 x i * (y % 65536 ^ k))
theorem Conv.step {x y i k : Nat} {D : Nat → Nat} (h : Conv x y i k D) (hi : i < 16) (hk : k < 16) : Conv x y i (k + 1) (fun j => if j = i + k then D j + d16 x i * d16 y k else D j) := by
  have h1 : d16 x i * d16 y k ≤ SQ := Nat.le_trans (Nat.mul_le_mul (Nat.le_of_lt_succ (d16_lt x i)) (Nat.le_of_lt_succ (d16_lt y k))) (by decide)
  refine ⟨fun j => ?_, ?_⟩
  · have h2 := h.le j
    have e : (16 * i + (k + 1)) * SQ = (16 * i + k) * SQ + SQ := by rw [← Nat.add_assoc, Nat.add_mul _ 1, Nat.one_mul]
    refine Nat.le_trans ?_ (Nat.le_of_eq e.symm)
    by_cases hj : j = i + k
    · rw [if_pos hj]; exact Nat.add_le_add h2 h1
    · rw [if_neg hj]; exact Nat.le_trans h2 (Nat.le_add_right _ _)
  · rw [val_bump, if_pos (by omega), h.eq, mod_pow_succ', Nat.mul_add (d16 x i), Nat.mul_add (65536 ^ i), Nat.pow_add, ← Nat.add_assoc]
    congr 1
    show 65536 ^ i * 65536 ^ k * (d16 x i * dgt 65536 y k) = _
    rw [Nat.mul_assoc, Nat.mul_left_comm (d16 x i)]
theorem Conv.next {x y i : Nat} {D : Nat → Nat} (h : Conv x y i 16 D) (hy : y < W4) : Conv x y (i + 1) 0 D := by
  refine ⟨fun j => Nat.le_trans (h.le j) (Nat.le_of_eq (by rw [Nat.mul_add])), ?_⟩
  rw [h.eq, ← W4_d16, Nat.mod_eq_of_lt hy, mod_pow_succ', Nat.pow_zero, Nat.mod_one, Nat.mul_zero, Nat.mul_zero, Nat.add_zero, Nat.add_mul, Nat.mul_assoc]
  rfl
/-- The fold's digits, when k have been laid. -/
def fov (D : Nat → Nat) (k j : Nat) : Value := .int .i64 ((if j < k then fold D j else 0 : Nat) : Int)
end Go.Proofs.YtgaofocjnifjdaaDoor
namespace Go.Proofs.YtgaofocjnifjdaaDoor
open Go Go.RowKit
/-- The sum's digits: the first k of them are added. -/
def sumd (x y k j : Nat) : Nat := if j < k then d16 x j + d16 y j else d16 x j
attribute [local irreducible] wd by8 d16 set16w fl val cyr FF gl sumd
set_option maxRecDepth 20000
end Go.Proofs.YtgaofocjnifjdaaDoor

namespace Go.Proofs.YtgaofocjnifjdaaDoor
open Go Go.RowKit
attribute [local irreducible] wd by8 d16 set16w fl
set_option maxRecDepth 20000
end Go.Proofs.YtgaofocjnifjdaaDoor

namespace Go.Proofs.YtgaofocjnifjdaaDoor
open Go Go.RowKit
attribute [local irreducible] wd by8 d16 set16w fl
set_option maxRecDepth 20000
end Go.Proofs.YtgaofocjnifjdaaDoor

namespace Go.Proofs.YtgaofocjnifjdaaDoor
open Go Go.RowKit
attribute [local irreducible] wd by8 d16 set16w fl
set_option maxRecDepth 20000
end Go.Proofs.YtgaofocjnifjdaaDoor
