import Derived.Test.YtecphnhdcphgbaaEq
namespace Go.Proofs.Ytecphnhdcphgbaa
open Go Go.RowKit
theorem own_pair (x y : Nat) (w : World) : OwnF ((w.alloc (A4 x)).alloc (A4 y)) w.heap.size 35 (some ⟨w.heap.size, 0, none⟩) 4 4 (wv x) ∧ OwnF ((w.alloc (A4 x)).alloc (A4 y)) w.heap.size 35 (some ⟨w.heap.size + 1, 0, none⟩) 4 4 (wv y) ∧ Below w.heap.size w ((w.alloc (A4 x)).alloc (A4 y)) := by
  have s1 : (w.alloc (A4 x)).heap.size = w.heap.size + 1 := by simp
  have h1 := (own_A4 (w := w) (B := w.heap.size) (Nat.le_refl _) x).keepAt ((Below.refl (w.heap.size + 1) (w.alloc (A4 x))).alloc (by omega) (A4 y))
  have h2 := own_A4 (w := w.alloc (A4 x)) (B := w.heap.size) (by omega) y
  rw [s1] at h2
  exact ⟨h1, h2, ((Below.refl _ w).alloc (Nat.le_refl _) _).alloc (by omega) _⟩
end Go.Proofs.Ytecphnhdcphgbaa
