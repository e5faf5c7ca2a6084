/-
  A list of lists of bytes in memory. Of no program. By an AI agent.
-/
import Derived.Test.YtdddcgkgellbgabMA
namespace Go.Proofs.Ytdddcgkgellbgab
open Go Go.RowKit
def row (L : List (List UInt8)) (k : Nat) : List UInt8 := L[k]?.getD []
theorem row_get {L : List (List UInt8)} {k : Nat} (h : k < L.length) : row L k = L[k] := by simp [row, h]
/-- All lists, one behind the other. -/
def joinL (L : List (List UInt8)) : List UInt8 := L.flatten
/-- The first k lists, one behind the other. -/
def joinK (L : List (List UInt8)) (k : Nat) : List UInt8 := (L.take k).flatten
theorem joinK_zero (L : List (List UInt8)) : joinK L 0 = [] := by simp [joinK]
theorem joinK_succ {L : List (List UInt8)} {k : Nat} (h : k < L.length) : joinK L (k + 1) = joinK L k ++ row L k := by
  simp only [joinK, List.take_succ_eq_append_getElem h, List.flatten_append, row_get h]; simp
theorem joinK_full (L : List (List UInt8)) : joinK L L.length = joinL L := by simp [joinK, joinL]
theorem joinK_le (L : List (List UInt8)) (k : Nat) : (joinK L k).length ≤ (joinL L).length := by
  unfold joinL
  have : L.flatten = joinK L k ++ (L.drop k).flatten := by rw [joinK, ← List.flatten_append, List.take_append_drop]
  rw [this, List.length_append]; omega
theorem row_le {L : List (List UInt8)} {k : Nat} (h : k < L.length) : (joinK L k).length + (row L k).length ≤ (joinL L).length := by
  have := joinK_le L (k + 1)
  rw [joinK_succ h, List.length_append] at this
  exact this

/-- The slice at 'A' reads as the lists of bytes L, all below block B. -/
structure Rds (w : World) (B : Nat) (A : Option Addr) (c : Nat) (L : List (List UInt8)) : Prop where
  cap : L.length ≤ c
  nil : A = none → L = [] ∧ c = 0
  some_ : L ≠ [] → ∃ b o, A = some ⟨b, o, none⟩ ∧ b < B ∧ ∀ k, k < L.length → ∃ Ak ck, w.cell? ⟨b, o + k, none⟩ = some (.slice Ak (row L k).length ck) ∧ Rd w B Ak ck (row L k)
section
variable {w w' : World} {B B' c : Nat} {A : Option Addr} {L : List (List UInt8)}
theorem Rds.keep (h : Rds w B A c L) (hb : Below B w w') : Rds w' B A c L :=
  ⟨h.cap, h.nil, fun hn => by
    obtain ⟨b, o, e, hlt, hc⟩ := h.some_ hn
    refine ⟨b, o, e, hlt, fun k hk => ?_⟩
    obtain ⟨Ak, ck, h1, h2⟩ := hc k hk
    exact ⟨Ak, ck, (hb.cell (p := ⟨b, o + k, none⟩) hlt).trans h1, h2.keep hb⟩⟩
theorem Rds.mono (h : Rds w B A c L) (hb : B ≤ B') : Rds w B' A c L :=
  ⟨h.cap, h.nil, fun hn => by
    obtain ⟨b, o, e, hlt, hc⟩ := h.some_ hn
    refine ⟨b, o, e, by omega, fun k hk => ?_⟩
    obtain ⟨Ak, ck, h1, h2⟩ := hc k hk
    exact ⟨Ak, ck, h1, h2.mono hb⟩⟩
theorem Rds.next (h : Rds w w.heap.size A c L) (hb : Below w.heap.size w w') : Rds w' w'.heap.size A c L := (h.keep hb).mono hb.size
theorem Rds.at_ {k : Nat} (h : Rds w B A c L) (hk : k < L.length) : ∃ b o, A = some ⟨b, o, none⟩ ∧ b < B ∧ ∃ Ak ck, w.cell? ⟨b, o + k, none⟩ = some (.slice Ak (row L k).length ck) ∧ Rd w B Ak ck (row L k) := by
  obtain ⟨b, o, e, hlt, hc⟩ := h.some_ (by rintro rfl; simp at hk)
  exact ⟨b, o, e, hlt, hc k hk⟩
end
end Go.Proofs.Ytdddcgkgellbgab
