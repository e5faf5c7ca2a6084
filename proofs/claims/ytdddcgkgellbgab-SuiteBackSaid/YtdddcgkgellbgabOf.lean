/-
  Outside some blocks nothing that was there has changed. Of no program. By an AI agent.
-/
import Derived.Test.YtdddcgkgellbgabMA
namespace Go.Proofs.Ytdddcgkgellbgab
open Go Go.RowKit
/-- Outside the blocks of F nothing that was there is another one. -/
structure OutF (F : Nat → Prop) (w w' : World) : Prop where
  os : w'.os = w.os
  tape : w'.tape = w.tape
  output : w'.output = w.output
  size : w.heap.size ≤ w'.heap.size
  block : ∀ k, k < w.heap.size → ¬ F k → w'.heap[k]? = w.heap[k]?
theorem OutF.of {F : Nat → Prop} {w w' : World} (h : Below w.heap.size w w') : OutF F w w' := ⟨h.os, h.tape, h.output, h.size, fun k hk _ => h.block k hk⟩
theorem OutF.below {F : Nat → Prop} {B : Nat} {w w' : World} (h : OutF F w w') (hF : ∀ k, F k → B ≤ k) (hB : B ≤ w.heap.size) : Below B w w' := ⟨h.os, h.tape, h.output, h.size, fun k hk => h.block k (Nat.lt_of_lt_of_le hk hB) (fun hf => by have := hF k hf; omega)⟩
end Go.Proofs.Ytdddcgkgellbgab
