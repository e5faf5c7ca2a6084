import Derived.Test.YtifcjfeepgfmfaaDoorWide
namespace Go.Proofs.YtifcjfeepgfmfaaDoor
open Go Go.RowKit
theorem DOwn.trim {w : World} {B B' n n' c x : Nat} {A : Option Addr} (h : OwnF w B 3 A c n (dg8 x)) (hB : B' ≤ B) (hn : n' ≤ n) (hx : x < 256 ^ n') (hc : Can n' x) : DOwn w B' A c n' x := ⟨(h.mono hB).take hn, hx, hc⟩
/-- What is carried into byte k of a sum; the sum of the bytes with it. -/
def c8 (x y k : Nat) : Nat := cry 256 x y k
def t8 (x y k : Nat) : Nat := by8 x k + by8 y k + c8 x y k
theorem c8_le (x y k : Nat) : c8 x y k ≤ 1 := cry_le (by decide) _ _ _
theorem t8_le (x y k : Nat) : t8 x y k ≤ 511 := by
  have h1 := by8_lt x k
  have h2 := by8_lt y k
  have h3 := c8_le x y k
  unfold t8; omega
theorem t8_mod (x y k : Nat) : t8 x y k % 256 = by8 (x + y) k := (dgt_add (b := 256) (by decide) x y k).symm
theorem t8_div (x y k : Nat) : t8 x y k / 256 = c8 x y (k + 1) := (cry_succ (b := 256) (by decide) x y k).symm
theorem wrap3 {p q r : Nat} (hp : p < 256) (hq : q < 256) (hr : r ≤ 1) : IntKind.i64.wrap ((p : Int) + (q : Int)) = (p : Int) + (q : Int) ∧ IntKind.i64.wrap ((p : Int) + (q : Int) + (r : Int)) = ((p + q + r : Nat) : Int) := by
  constructor
  · rw [IntKind.wrap_i64]; omega
  · rw [IntKind.wrap_i64]; omega
theorem nmod {a b : Nat} (h : a % 256 = b) : (a : Int).tmod 256 = (b : Int) ∧ (a : Int) % 256 = (b : Int) := by
  refine ⟨?_, by omega⟩
  rw [Int.tmod_eq_emod_of_nonneg (by omega)]; omega
theorem ndiv {a b : Nat} (h : a / 256 = b) : (a : Int).tdiv 256 = (b : Int) ∧ (a : Int) / 256 = (b : Int) := by
  refine ⟨?_, by omega⟩
  rw [Int.tdiv_eq_ediv_of_nonneg (by omega)]; omega
end Go.Proofs.YtifcjfeepgfmfaaDoor
