/-
  octet.Bytes (layer 1), of what has room. By an AI agent.
-/
import Derived.Test.YtmhfkabpfkoocaaDoorMB
namespace Go.Proofs.YtmhfkabpfkoocaaDoor
open Go Go.RowKit
/-- The i-th byte of a number, the lowest first. -/
def numd (n : Nat) (i : Nat) : UInt8 := UInt8.ofNat (n / 2 ^ (8 * i) % 256)
def bytesL (n : Nat) (size : Nat) : List UInt8 := gen (numd n) size
theorem numd_toNat (n i : Nat) : ((numd n i).toNat : Int) = (n : Int) / 2 ^ (8 * i) % 256 := by
  have h : (numd n i).toNat = n / 2 ^ (8 * i) % 256 := by
    simp only [numd, UInt8.toNat_ofNat']
    exact Nat.mod_mod _ _
  rw [h, Int.natCast_emod, Int.natCast_ediv, Int.natCast_pow]
  rfl

def BytesPost (n size : Nat) (w : World) (e : Ending) (w' : World) : Prop :=
  ∃ A' c', e = .returned (.tuple #[.slice A' size c', .int .i64 0]) ∧ Own w' w.heap.size 5 A' c' (bytesL n size) ∧ Below w.heap.size w w'
set_option maxHeartbeats 400000 in
theorem octBytes_good (w : World) (n : Nat) (size : Nat) (hs : size ≤ 8) (hr : n / 2 ^ (8 * size) = 0) :
    Calls Tryd.prog 43 #[.int .u64 (n : Int), .int .i64 (size : Int)] w (BytesPost n size w) := by
  obtain ⟨i0, hi, hz0, hz1, hz2⟩ := info_parts infoByte
  have hmk := run_mk (P := Tryd.prog) 22 5 i0 Tryd.underlying22 hi hz0 hz1 hz2 (l := (size : Int)) (n := size) rfl (by omega)
  have hm : Own (w.alloc (.cells (madeCells #[.int .u8 0] size) 5)) w.heap.size 5 (some ⟨w.heap.size, 0, none⟩) size (List.replicate size 0) := Own.made 5 (Nat.le_refl _) (by unfold maxLen; omega)
  have hb0 : Below w.heap.size w (w.alloc (.cells (madeCells #[.int .u8 0] size) 5)) := (Below.refl _ w).alloc (Nat.le_refl _) _
  have t1 : decide ((size : Int) < 0) = false := by simp
  have t2 : decide ((8 : Int) < (size : Int)) = false := by simp; omega
  have t3 : ((n : Int) / 2 ^ (8 * size) != 0) = false := by
    have : ((n / 2 ^ (8 * size) : Nat) : Int) = 0 := by rw [hr]; rfl
    simpa using this
  clear hr
  go_enter Tryd.func43, Tryd.ntmps43
  go_wp2
  clear t1 t2 t3
  go_loopw [22] (fun i wr => ∃ k : Nat, k ≤ size ∧ i = .int .i64 k ∧ Own wr w.heap.size 5 (some ⟨w.heap.size, 0, none⟩) size (fill (numd n) size k) ∧ Below w.heap.size w wr)
    (fun i _ => size - (intOf i).toNat)
  case atStart => exact ⟨0, Nat.zero_le _, rfl, by rw [fill_zero]; exact hm, hb0⟩
  case round =>
    obtain ⟨k, hk, rfl, ho, hb⟩ := hrel
    clear hm hb0 hmk
    by_cases hlt : k < size
    · have g1 : (k : Int) < (size : Int) := by omega
      have e1 : wr.cell? ⟨w.heap.size, k, none⟩ = some (.int .u8 (nth (fill (numd n) size k) k : Int)) := ho.cell (by rw [fill_length]; exact hlt)
      have e2 : wr.frozen? ⟨w.heap.size, k, none⟩ = false := ho.free _
      go_wp2
      go_roundw
      case rel =>
        refine ⟨k + 1, by omega, by go_num, ?_, hb.setCell (Nat.le_refl _) _⟩
        rw [← fill_set _ _ k rfl, ← numd_toNat]
        exact ho.set_ _ _
      case measure => simp [intOf]; omega
    · have hk' : k = size := by omega
      subst hk'
      rw [fill_full] at ho
      go_wp2
      go_ret2
      exact ⟨_, _, rfl, ho, hb⟩
theorem bytesL_bf (n size : Nat) : bytesL n size = gen (bf n) size := by
  unfold bytesL gen
  refine List.map_congr_left fun i _ => ?_
  unfold numd bf by8 dgt
  rw [show (256 : Nat) ^ i = 2 ^ (8 * i) by rw [show (256 : Nat) = 2 ^ 8 from rfl, ← Nat.pow_mul]]
/-- A number of 64 bits in eight bytes. -/
theorem octBytes8 {n : Nat} (hn : n < 18446744073709551616) (w : World) :
    Calls Tryd.prog 43 #[.int .u64 (n : Int), .int .i64 8] w fun e w' => ∃ A c, e = .returned (.tuple #[.slice A 8 c, .int .i64 0]) ∧ Own w' w.heap.size 5 A c (gen (bf n) 8) ∧ Below w.heap.size w w' := by
  rw [← bytesL_bf]
  exact octBytes_good w n 8 (by decide) (Nat.div_eq_of_lt (by simpa using hn))
end Go.Proofs.YtmhfkabpfkoocaaDoor
