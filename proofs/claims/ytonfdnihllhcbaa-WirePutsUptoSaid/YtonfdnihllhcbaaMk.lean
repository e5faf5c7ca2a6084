/-
  'make([]byte, 0, n)': a row of one's own, of nothing yet. By an AI agent.
-/
import Derived.Test.YtonfdnihllhcbaaMA
namespace Go.Proofs.Ytonfdnihllhcbaa
open Go Go.RowKit
/-- 'make([]byte, 0, n)'. -/
theorem run_mk0 {P : Program} (t e : TypeId) (i : TypeInfo) (ht : P.underlying t = some (.slice e)) (hi : P.info? e = some i) (hz : i.zero = some (.int .u8 0))
    (hsize : i.size = 1) (hby : i.bytes = 1) {n : Nat} (hn : n ≤ 281474976710656) (w : World) :
    (Instr.makeSlice t (.int .i64 0) (.int .i64 (n : Int))).run P w = .ok (.slice (some ⟨w.heap.size, 0, none⟩) 0 n) (w.alloc (.cells (madeCells #[.int .u8 0] n) e)) := by
  have h := run_make (P := P) w t e i (.int .u8 0) ht hi hz .i64 .i64 0 n (by omega) (by omega) (by rw [hby]; omega) (by omega)
  simpa [hsize, Value.cells] using h
theorem Own.made0 {w : World} {B n : Nat} (e : TypeId) (hB : B ≤ w.heap.size) (hn : n ≤ maxLen) : Own (w.alloc (.cells (madeCells #[.int .u8 0] n) e)) B e (some ⟨w.heap.size, 0, none⟩) n [] :=
  World.ownsRow_made w _ n hB hn (by simp [madeCells])
end Go.Proofs.Ytonfdnihllhcbaa
