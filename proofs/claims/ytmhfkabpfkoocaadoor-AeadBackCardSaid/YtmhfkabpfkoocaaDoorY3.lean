/-
  Layer 10's document: the places of a round. By an AI agent.
-/
import Derived.Test.YtmhfkabpfkoocaaDoorY2
namespace Go.Proofs.YtmhfkabpfkoocaaDoor
open Go Go.RowKit
set_option maxRecDepth 20000
def PL : List (List Nat) := [[0, 4, 8, 12], [1, 5, 9, 13], [2, 6, 10, 14], [3, 7, 11, 15], [0, 5, 10, 15], [1, 6, 11, 12], [2, 7, 8, 13], [3, 4, 9, 14]]
def plN (i k : Nat) : Nat := (PL.getD i []).getD k 0
theorem plN_lt : ∀ i, i < 8 → ∀ k, k < 4 → plN i k < 16 := by decide
def plv (i k : Nat) : Value := .int .i64 ((plN i k : Nat) : Int)
/-- The rows of places, in blocks of the call's own. -/
def Pl (w : World) (B g : Nat) (G : Nat → Nat) : Prop :=
  B ≤ g ∧ g < w.heap.size ∧ ∀ i, i < 8 → B ≤ G i ∧ G i < w.heap.size ∧ w.cell? ⟨g, i, none⟩ = some (.slice (some ⟨G i, 0, none⟩) 4 4) ∧ ∀ k, k < 4 → w.cell? ⟨G i, k, none⟩ = some (plv i k)
theorem Pl.keep {w w' : World} {B g : Nat} {G : Nat → Nat} (h : Pl w B g G) (hb : Below w.heap.size w w') : Pl w' B g G := by
  obtain ⟨h1, h2, h3⟩ := h
  refine ⟨h1, Nat.lt_of_lt_of_le h2 hb.size, fun i hi => ?_⟩
  obtain ⟨a, b, c, d⟩ := h3 i hi
  exact ⟨a, Nat.lt_of_lt_of_le b hb.size, (hb.cell (p := ⟨g, i, none⟩) h2).trans c, fun k hk => (hb.cell (p := ⟨G i, k, none⟩) b).trans (d k hk)⟩
theorem cell_other {w : World} {p q : Addr} {v u : Value} (hne : p.block ≠ q.block) (h : w.cell? q = some u) : (w.setCell p v).cell? q = some u := by
  rw [← h]
  unfold World.cell?
  rw [Below.heap_setCell w p v q.block (Ne.symm hne)]
theorem Pl.set_ {w : World} {B g b k : Nat} {G : Nat → Nat} {v : Value} (h : Pl w B g G) (hb : b < B) : Pl (w.setCell ⟨b, k, none⟩ v) B g G := by
  obtain ⟨h1, h2, h3⟩ := h
  refine ⟨h1, by simpa using h2, fun i hi => ?_⟩
  obtain ⟨a, b', c, d⟩ := h3 i hi
  refine ⟨a, by simpa using b', cell_other (by simp only; omega) c, fun j hj => cell_other (by simp only; omega) (d j hj)⟩
theorem cell_al {w : World} {p : Addr} {v : Value} (o : Obj) (h : w.cell? p = some v) : (w.alloc o).cell? p = some v := by
  have hlt := World.block_lt_of_cell? w p h
  rw [← h]
  exact ((Below.refl w.heap.size w).alloc (Nat.le_refl _) o).cell hlt
theorem cell_nw {w : World} {cs : Array Value} {e : TypeId} {b k : Nat} {v : Value} (hb : b = w.heap.size) (hv : cs[k]? = some v) : (w.alloc (.cells cs e)).cell? ⟨b, k, none⟩ = some v := by
  subst hb
  rw [← hv]
  exact World.cell?_alloc_new w cs e k
set_option maxHeartbeats 1600000 in
theorem places_any (w : World) : Calls Tryd.prog 32 #[] w fun e w' => ∃ g G, e = .returned (.slice (some ⟨g, 0, none⟩) 8 8) ∧ Pl w' w.heap.size g G ∧ Below w.heap.size w w' := by
  go_enter Tryd.func32, Tryd.ntmps32
  go_wp2_with fail
  go_ret
  refine ⟨w.heap.size + 8, fun i => w.heap.size + i, rfl, ⟨by omega, by simp, fun i hi => ?_⟩, ?_⟩
  · have h8 : i = 0 ∨ i = 1 ∨ i = 2 ∨ i = 3 ∨ i = 4 ∨ i = 5 ∨ i = 6 ∨ i = 7 := by omega
    refine ⟨Nat.le_add_right _ _, by simp; omega, ?_, fun k hk => ?_⟩
    · rcases h8 with rfl | rfl | rfl | rfl | rfl | rfl | rfl | rfl <;> exact cell_nw (by simp) rfl
    · have h4 : k = 0 ∨ k = 1 ∨ k = 2 ∨ k = 3 := by omega
      rcases h4 with rfl | rfl | rfl | rfl <;> rcases h8 with rfl | rfl | rfl | rfl | rfl | rfl | rfl | rfl <;> (repeat (first | (refine cell_nw ?_ rfl; (simp; done)) | refine cell_al _ ?_))
  · repeat (first | exact Below.refl _ _ | refine Below.alloc ?_ (by first | omega | (simp; done) | (simp; omega)) _)
end Go.Proofs.YtmhfkabpfkoocaaDoor
