/-
  Layer 19, the landed code: a number in eight bytes, a nonce. By an AI agent.
-/
import Derived.Test.YtdddcgkgellbgabSl1
import Derived.Test.YtdddcgkgellbgabBox
namespace Go.Proofs.Ytdddcgkgellbgab
open Go Go.RowKit
set_option maxRecDepth 20000
theorem e8_step (n i : Nat) : ((bf n i).toNat : Int) = (n : Int) / 2 ^ (8 * i) % 256 := by
  rw [bf_nat]
  unfold by8 dgt
  rw [show (256 : Nat) ^ i = 2 ^ (8 * i) by rw [show (256 : Nat) = 2 ^ 8 from rfl, ← Nat.pow_mul], Int.natCast_emod, Int.natCast_ediv, Int.natCast_pow]
  rfl
set_option maxHeartbeats 400000 in
theorem eight_any {n : Nat} (_hn : n < 9223372036854775808) (w : World) :
    Calls Try.prog 42 #[.int .i64 (n : Int)] w fun e w' => ∃ A c, e = .returned (.slice A 8 c) ∧ Own w' w.heap.size 5 A c (e8 n) ∧ Below w.heap.size w w' := by
  obtain ⟨i0, hi, hz0, hz1, hz2⟩ := info_parts infoByte
  have hmk := run_mk (P := Try.prog) 31 5 i0 Try.underlying31 hi hz0 hz1 hz2 (l := (8 : Int)) (n := 8) rfl (by omega)
  have hm : Own (w.alloc (.cells (madeCells #[.int .u8 0] 8) 5)) w.heap.size 5 (some ⟨w.heap.size, 0, none⟩) 8 (List.replicate 8 0) := Own.made 5 (Nat.le_refl _) (by decide)
  have hb0 : Below w.heap.size w (w.alloc (.cells (madeCells #[.int .u8 0] 8) 5)) := (Below.refl _ w).alloc (Nat.le_refl _) _
  go_enter Try.func42, Try.ntmps42
  go_wp2
  go_loopw [6] (fun i wr => ∃ k : Nat, k ≤ 8 ∧ i = .int .i64 k ∧ Own wr w.heap.size 5 (some ⟨w.heap.size, 0, none⟩) 8 (fill (bf n) 8 k) ∧ Below w.heap.size w wr)
    (fun i _ => 8 - (intOf i).toNat)
  case atStart => exact ⟨0, Nat.zero_le _, rfl, by rw [fill_zero]; exact hm, hb0⟩
  case round =>
    obtain ⟨k, hk, rfl, ho, hb⟩ := hrel
    clear hm hb0 hmk
    by_cases hlt : k < 8
    · have g1 : (k : Int) < 8 := by omega
      have e1 : wr.cell? ⟨w.heap.size, k, none⟩ = some (.int .u8 (nth (fill (bf n) 8 k) k : Int)) := ho.cell (by rw [fill_length]; exact hlt)
      have e2 : wr.frozen? ⟨w.heap.size, k, none⟩ = false := ho.free _
      go_wp2
      go_roundw
      case rel =>
        refine ⟨k + 1, by omega, by go_num, ?_, hb.setCell (Nat.le_refl _) _⟩
        rw [← fill_set _ _ k rfl, ← e8_step]
        exact ho.set_ _ _
      case measure => simp [intOf]; omega
    · obtain rfl : k = 8 := by omega
      rw [fill_full] at ho
      go_wp2
      go_ret
      exact ⟨_, _, rfl, ho, hb⟩
end Go.Proofs.Ytdddcgkgellbgab
