import Derived.Test.YtdddcgkgellbgabMA
import Derived.StillTailTactics
import Derived.RegionTactic
import Derived.Deep.RegionHeld3
import Derived.Laws.Pointers
import Derived.RowKit3
import Derived.Deep.RegionWith
import Derived.ChangeKeysEq
import Derived.Laws.StructEq
import Derived.Laws.ShiftsVar
namespace Go.Proofs.Ytdddcgkgellbgab
open Go Go.RowKit
/-- A digit as an int. -/
def dg8 (x k : Nat) : Value := .int .i64 (by8 x k : Int)
/-- No shorter row of digits is worth as much. -/
def Can (n x : Nat) : Prop := ∀ k, x < 256 ^ k → n ≤ k
theorem Can.zero {n : Nat} (h : Can n 0) : n = 0 := by have := h 0 (by decide); omega
theorem by8_top {x n : Nat} (h : x < 256 ^ n) {k : Nat} (hk : n ≤ k) : by8 x k = 0 := dgt_zero_of_lt (Nat.lt_of_lt_of_le h (Nat.pow_le_pow_right (by decide) hk))
theorem by8_step {x n : Nat} (h : x < 256 ^ (n + 1)) (h0 : by8 x n = 0) : x < 256 ^ n := by
  unfold by8 dgt at h0
  have h1 : x / 256 ^ n < 256 := Nat.div_lt_of_lt_mul (by rw [← Nat.pow_succ]; exact h)
  rw [Nat.mod_eq_of_lt h1] at h0
  rcases Nat.div_eq_zero_iff.1 h0 with h2 | h2
  · exact absurd h2 (Nat.ne_of_gt (Nat.pow_pos (by decide)))
  · exact h2
theorem can_of {x n : Nat} (h0 : by8 x n ≠ 0) : Can (n + 1) x := by
  intro k hk
  refine Nat.lt_of_not_le fun hle => h0 ?_
  exact by8_top hk hle
/-- The slice reads as n digits of x, which has no more. -/
structure Dig (w : World) (B : Nat) (A : Option Addr) (c n x : Nat) : Prop where
  rd : RdF w B A c n (dg8 x)
  lt : x < 256 ^ n
section
variable {w w' : World} {B B' c n x : Nat} {A : Option Addr}
theorem Dig.keep (h : Dig w B A c n x) (hb : Below B w w') : Dig w' B A c n x := ⟨h.rd.keep hb, h.lt⟩
theorem Dig.drew (h : Dig w B A c n x) : Dig w.drew B A c n x := ⟨h.rd.drew, h.lt⟩
theorem Dig.mono (h : Dig w B A c n x) (hb : B ≤ B') : Dig w B' A c n x := ⟨h.rd.mono hb, h.lt⟩
theorem Dig.next (h : Dig w w.heap.size A c n x) (hb : Below w.heap.size w w') : Dig w' w'.heap.size A c n x := ⟨h.rd.next hb, h.lt⟩
end
/-- .. in a row of the call's own, and no shorter row does. -/
structure DOwn (w : World) (B : Nat) (A : Option Addr) (c n x : Nat) : Prop where
  own : OwnF w B 3 A c n (dg8 x)
  lt : x < 256 ^ n
  can : Can n x
section
variable {w w' : World} {B B' c n x : Nat} {A : Option Addr}
theorem DOwn.keep (h : DOwn w B A c n x) (hb : Below w.heap.size w w') : DOwn w' B A c n x := ⟨h.own.keep hb, h.lt, h.can⟩
theorem DOwn.mono (h : DOwn w B A c n x) (hb : B' ≤ B) : DOwn w B' A c n x := ⟨h.own.mono hb, h.lt, h.can⟩
theorem DOwn.dig (h : DOwn w B A c n x) : Dig w w.heap.size A c n x := ⟨h.own.rd, h.lt⟩
theorem OwnF.take {e : TypeId} {f : Nat → Value} (h : OwnF w B e A c n f) {m : Nat} (hm : m ≤ n) : OwnF w B e A c m f := by
  obtain ⟨hl, h2⟩ := h
  rcases h2 with ⟨h, h0⟩ | ⟨g, cap, cur, hv, hB, hh, hn, hmx, hs, ht⟩
  · obtain rfl : m = 0 := by omega
    simp only [Value.slice.injEq] at h
    obtain ⟨rfl, _, rfl⟩ := h
    exact ⟨by simp, .inl ⟨rfl, rfl⟩⟩
  · refine ⟨by simp, .inr ⟨g, cap, cur, ?_, hB, hh, by omega, hmx, hs, ?_⟩⟩
    · simp only [Value.slice.injEq, true_and] at hv ⊢
      exact hv
    · have : (List.range m).map f = ((List.range n).map f).take (m * 1) := by
        rw [← List.map_take, List.take_range, Nat.mul_one, Nat.min_eq_left hm]
      rw [this, ← ht, List.take_take, Nat.min_eq_left (by omega)]
end

end Go.Proofs.Ytdddcgkgellbgab
