import Derived.Test.YtecphnhdcphgbaaS6
import Derived.Test.YtecphnhdcphgbaaInv
namespace Go.Proofs.Ytecphnhdcphgbaa
open Go Go.RowKit
theorem twoS (a b : Nat) (w : World) : ∃ v, v = (w.alloc (AE 25 a)).alloc (AE 25 b) ∧ T4 v w.heap.size w.heap.size a ∧ T4 v w.heap.size (w.heap.size + 1) b ∧ Below w.heap.size w v := by
  have s1 : (w.alloc (AE 25 a)).heap.size = w.heap.size + 1 := by simp
  have ob := T4.new (w := w.alloc (AE 25 a)) (B := w.heap.size) (by omega) 25 b
  rw [s1] at ob
  exact ⟨_, rfl, (T4.new (w := w) (Nat.le_refl _) 25 a).alloc (AE 25 b), ob, ((Below.refl _ w).alloc (Nat.le_refl _) _).alloc (by omega) _⟩
theorem threeS (a b c : Nat) (w : World) : ∃ v, v = ((w.alloc (AE 25 a)).alloc (AE 25 b)).alloc (AE 25 c) ∧ T4 v w.heap.size w.heap.size a ∧ T4 v w.heap.size (w.heap.size + 1) b ∧ T4 v w.heap.size (w.heap.size + 2) c ∧ Below w.heap.size w v := by
  have s1 : (w.alloc (AE 25 a)).heap.size = w.heap.size + 1 := by simp
  have s2 : ((w.alloc (AE 25 a)).alloc (AE 25 b)).heap.size = w.heap.size + 2 := by simp
  have ob := (T4.new (w := w.alloc (AE 25 a)) (B := w.heap.size) (by omega) 25 b).alloc (AE 25 c)
  have oc := T4.new (w := (w.alloc (AE 25 a)).alloc (AE 25 b)) (B := w.heap.size) (by omega) 25 c
  rw [s1] at ob
  rw [s2] at oc
  exact ⟨_, rfl, ((T4.new (w := w) (Nat.le_refl _) 25 a).alloc (AE 25 b)).alloc (AE 25 c), ob, oc, (((Below.refl _ w).alloc (Nat.le_refl _) _).alloc (by omega) _).alloc (by omega) _⟩
theorem tkeep44 {w : World} {B g x g' x' : Nat} (h : T4 w B g x) (h' : T4 w B g' x') : ∀ wz, Below w.heap.size w wz → wz.cell? ⟨g, 0, none⟩ = some (.int .u64 (wd x 0 : Int)) ∧ wz.cell? ⟨g, 1, none⟩ = some (.int .u64 (wd x 1 : Int)) ∧ wz.cell? ⟨g, 2, none⟩ = some (.int .u64 (wd x 2 : Int)) ∧ wz.cell? ⟨g, 3, none⟩ = some (.int .u64 (wd x 3 : Int)) ∧ wz.cell? ⟨g', 0, none⟩ = some (.int .u64 (wd x' 0 : Int)) ∧ wz.cell? ⟨g', 1, none⟩ = some (.int .u64 (wd x' 1 : Int)) ∧ wz.cell? ⟨g', 2, none⟩ = some (.int .u64 (wd x' 2 : Int)) ∧ wz.cell? ⟨g', 3, none⟩ = some (.int .u64 (wd x' 3 : Int)) := fun wz hz => by
  obtain ⟨a0, a1, a2, a3⟩ := (h.keep hz).c4
  obtain ⟨b0, b1, b2, b3⟩ := (h'.keep hz).c4
  exact ⟨a0, a1, a2, a3, b0, b1, b2, b3⟩
theorem tkeep444 {w : World} {B g x g' x' g'' x'' : Nat} (h : T4 w B g x) (h' : T4 w B g' x') (h'' : T4 w B g'' x'') : ∀ wz, Below w.heap.size w wz → wz.cell? ⟨g, 0, none⟩ = some (.int .u64 (wd x 0 : Int)) ∧ wz.cell? ⟨g, 1, none⟩ = some (.int .u64 (wd x 1 : Int)) ∧ wz.cell? ⟨g, 2, none⟩ = some (.int .u64 (wd x 2 : Int)) ∧ wz.cell? ⟨g, 3, none⟩ = some (.int .u64 (wd x 3 : Int)) ∧ wz.cell? ⟨g', 0, none⟩ = some (.int .u64 (wd x' 0 : Int)) ∧ wz.cell? ⟨g', 1, none⟩ = some (.int .u64 (wd x' 1 : Int)) ∧ wz.cell? ⟨g', 2, none⟩ = some (.int .u64 (wd x' 2 : Int)) ∧ wz.cell? ⟨g', 3, none⟩ = some (.int .u64 (wd x' 3 : Int)) ∧ wz.cell? ⟨g'', 0, none⟩ = some (.int .u64 (wd x'' 0 : Int)) ∧ wz.cell? ⟨g'', 1, none⟩ = some (.int .u64 (wd x'' 1 : Int)) ∧ wz.cell? ⟨g'', 2, none⟩ = some (.int .u64 (wd x'' 2 : Int)) ∧ wz.cell? ⟨g'', 3, none⟩ = some (.int .u64 (wd x'' 3 : Int)) := fun wz hz => by
  obtain ⟨a0, a1, a2, a3⟩ := (h.keep hz).c4
  obtain ⟨b0, b1, b2, b3⟩ := (h'.keep hz).c4
  obtain ⟨c0, c1, c2, c3⟩ := (h''.keep hz).c4
  exact ⟨a0, a1, a2, a3, b0, b1, b2, b3, c0, c1, c2, c3⟩
end Go.Proofs.Ytecphnhdcphgbaa
