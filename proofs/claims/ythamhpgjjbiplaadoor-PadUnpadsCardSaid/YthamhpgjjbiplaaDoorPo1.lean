/-
  The document's Cut (layer 11). Written by tools/gen_po1.py. By an AI agent.
-/
import Derived.Test.YthamhpgjjbiplaaDoorMX
import Derived.Test.YthamhpgjjbiplaaDoorInv
import Derived.Test.YthamhpgjjbiplaaDoorCp
import Derived.Test.YthamhpgjjbiplaaDoorSh
namespace Go.Proofs.YthamhpgjjbiplaaDoor
open Go Go.RowKit
set_option maxRecDepth 20000
theorem p_toF {w : World} {B c : Nat} {e : TypeId} {A : Option Addr} {bs : List UInt8} (h : Own w B e A c bs) : OwnF w B e A c bs.length (bvf bs) := by
  unfold Own at h
  unfold OwnF
  have : (List.range bs.length).map (bvf bs) = bs.map bv := by
    refine List.ext_getElem (by simp) fun i h1 h2 => ?_
    have h3 : i < bs.length := by simpa using h2
    simp only [List.getElem_map, List.getElem_range]
    unfold bvf bv
    rw [nth_get h3]
  rw [this]
  exact h
theorem p_ofF {w : World} {B c n : Nat} {e : TypeId} {A : Option Addr} {f : Nat → Value} {S : List UInt8} (h : OwnF w B e A c n f) (hl : S.length = n) (hf : ∀ k, k < n → f k = bvf S k) : Own w B e A c S := by
  unfold OwnF at h
  unfold Own
  have : (List.range n).map f = S.map bv := by
    refine List.ext_getElem (by simp [hl]) fun i h1 h2 => ?_
    have h3 : i < S.length := by simpa using h2
    simp only [List.getElem_map, List.getElem_range]
    rw [hf i (by omega)]
    unfold bvf bv
    rw [nth_get h3]
  rw [hl, ← this]
  exact h
theorem p_at0 {w : World} {B c n : Nat} {e : TypeId} {A : Option Addr} {f : Nat → Value} (h : OwnF w B e A c n f) (hn : 0 < n) : ∃ g, A = some ⟨g, 0, none⟩ := by
  obtain ⟨_, h2⟩ := h
  rcases h2 with ⟨_, h0⟩ | ⟨g, cap, cur, hv, _⟩
  · omega
  · simp only [Value.slice.injEq] at hv
    exact ⟨g, hv.1⟩
/-- A byte that is cut. -/
def cutn (r : List UInt8) (i : Nat) : Nat := if i % 4 = 3 then nth r i % 16 else if i % 4 = 0 ∧ 0 < i then nth r i - nth r i % 4 else nth r i
theorem cutn_lt (r : List UInt8) (i : Nat) : cutn r i < 256 := by
  have := nth_lt r i
  unfold cutn
  split
  · omega
  · split <;> omega
def cutL (r : List UInt8) : List UInt8 := gen (fun i => UInt8.ofNat (cutn r i)) 16
theorem cutL_len (r : List UInt8) : (cutL r).length = 16 := gen_length _ _
theorem cutL_nth (r : List UInt8) {k : Nat} (hk : k < 16) : nth (cutL r) k = cutn r k := by
  unfold cutL
  rw [nth_gen hk]
  have := cutn_lt r k
  simp
  omega
/-- The row behind k rounds of the first loop, .. -/
def f1n (r : List UInt8) (k j : Nat) : Nat := if j % 4 = 3 ∧ j < 4 * k + 3 then nth r j % 16 else nth r j
def f1v (r : List UInt8) (k j : Nat) : Value := .int .u8 ((f1n r k j : Nat) : Int)
theorem f1_zero (r : List UInt8) (j : Nat) : bvf r j = f1v r 0 j := by unfold bvf f1v f1n; rw [if_neg (by omega)]
theorem f1_at (r : List UInt8) {k t : Nat} (ht : t = 4 * k + 3) : f1v r k t = .int .u8 ((nth r t : Nat) : Int) := by unfold f1v f1n; rw [if_neg (by omega)]
theorem f1_step (r : List UInt8) {k t : Nat} (ht : t = 4 * k + 3) (j : Nat) : (if j = t then Value.int .u8 ((nth r t % 16 : Nat) : Int) else f1v r k j) = f1v r (k + 1) j := by
  unfold f1v f1n
  by_cases h : j = t
  · rw [if_pos h, if_pos (by omega), h]
  · rw [if_neg h]
    by_cases h2 : j % 4 = 3 ∧ j < 4 * k + 3
    · rw [if_pos h2, if_pos (by omega)]
    · rw [if_neg h2, if_neg (by omega)]
/-- .. and of the other one. -/
def f2v (r : List UInt8) (k j : Nat) : Value := .int .u8 ((if j % 4 = 0 ∧ 0 < j ∧ j < 4 * k + 4 then nth r j - nth r j % 4 else f1n r 4 j : Nat) : Int)
theorem f2_zero (r : List UInt8) (j : Nat) : f1v r 4 j = f2v r 0 j := by unfold f2v f1v; rw [if_neg (by omega)]
theorem f2_at (r : List UInt8) {k t : Nat} (ht : t = 4 * k + 4) : f2v r k t = .int .u8 ((nth r t : Nat) : Int) := by unfold f2v f1n; rw [if_neg (by omega), if_neg (by omega)]
theorem f2_step (r : List UInt8) {k t : Nat} (ht : t = 4 * k + 4) (j : Nat) : (if j = t then Value.int .u8 ((nth r t - nth r t % 4 : Nat) : Int) else f2v r k j) = f2v r (k + 1) j := by
  unfold f2v
  by_cases h : j = t
  · rw [if_pos h, if_pos (by omega), h]
  · rw [if_neg h]
    by_cases h2 : j % 4 = 0 ∧ 0 < j ∧ j < 4 * k + 4
    · rw [if_pos h2, if_pos (by omega)]
    · rw [if_neg h2, if_neg (by omega)]
theorem f2_full (r : List UInt8) {j : Nat} (hj : j < 16) : f2v r 3 j = bvf (cutL r) j := by
  unfold f2v bvf f1n
  rw [cutL_nth r hj]
  unfold cutn
  by_cases h1 : j % 4 = 3
  · rw [if_neg (by omega), if_pos (by omega), if_pos h1]
  · by_cases h2 : j % 4 = 0 ∧ 0 < j
    · rw [if_pos (by omega), if_neg h1, if_pos h2]
    · rw [if_neg (by omega), if_neg (by omega), if_neg h1, if_neg h2]
section
attribute [local irreducible] f1v f2v
end
end Go.Proofs.YthamhpgjjbiplaaDoor
