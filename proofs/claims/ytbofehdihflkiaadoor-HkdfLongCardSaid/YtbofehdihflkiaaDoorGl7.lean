/-
  The program's tables in memory: layer 7's three. By an AI agent.
-/
import Derived.Test.YtbofehdihflkiaaDoorN12
import Derived.Test.YtbofehdihflkiaaDoorN20
import Derived.Test.YtbofehdihflkiaaDoorBox
namespace Go.Proofs.YtbofehdihflkiaaDoor
open Go Go.RowKit
/-- So many variables lie ahead of all that a call makes. -/
def glbN : Nat := 3
/-- The program's tables, as its own text lays them. -/
structure Glb (w : World) : Prop where
  a : ∀ k, k < 8 → w.cell? ⟨0, k, none⟩ = some (.int .u32 ((fst smallS k : Nat) : Int))
  c : ∀ k, k < 64 → w.cell? ⟨1, k, none⟩ = some (.int .u32 ((smallS.keys.getD k 0 : Nat) : Int))
  d : ∀ k, k < 80 → w.cell? ⟨2, k, none⟩ = some (.int .u64 ((greatS.keys.getD k 0 : Nat) : Int))
theorem Glb.four {w : World} (h : Glb w) : glbN ≤ w.heap.size := World.block_lt_of_cell? w ⟨2, 0, none⟩ (h.d 0 (by decide))
theorem Glb.keep {w w' : World} (h : Glb w) {B : Nat} (hb : Below B w w') (hB : glbN ≤ B) : Glb w' :=
  ⟨fun k hk => (hb.cell (p := ⟨0, k, none⟩) (show 0 < B from Nat.lt_of_lt_of_le (by decide) hB)).trans (h.a k hk), fun k hk => (hb.cell (p := ⟨1, k, none⟩) (show 1 < B from Nat.lt_of_lt_of_le (by decide) hB)).trans (h.c k hk), fun k hk => (hb.cell (p := ⟨2, k, none⟩) (show 2 < B from Nat.lt_of_lt_of_le (by decide) hB)).trans (h.d k hk)⟩
theorem Glb.next {w w' : World} (h : Glb w) (hb : Below w.heap.size w w') : Glb w' := h.keep hb h.four
end Go.Proofs.YtbofehdihflkiaaDoor
