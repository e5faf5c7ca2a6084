import Derived.Test.YtebhefgfebghkaaDoorW7
import Derived.StillTailTactics
import Derived.RegionTactic
namespace Go.Proofs.YtebhefgfebghkaaDoor
open Go Go.RowKit

/-- a xor b, byte by byte. -/
def xorL (xs ys : List UInt8) : List UInt8 := gen (fun k => UInt8.ofNat (nth xs k ^^^ nth ys k)) xs.length
theorem xor_lt {a b : Nat} (ha : a < 256) (hb : b < 256) : a ^^^ b < 256 := Nat.xor_lt_two_pow (n := 8) (by omega) (by omega)
theorem xorb_toNat (xs ys : List UInt8) (k : Nat) : (UInt8.ofNat (nth xs k ^^^ nth ys k)).toNat = nth xs k ^^^ nth ys k := by
  have := xor_lt (nth_lt xs k) (nth_lt ys k)
  simp only [UInt8.toNat_ofNat']
  omega

set_option maxHeartbeats 400000 in
theorem xor_good {A1 A2 : Option Addr} {c1 c2 B1 B2: Nat} {xs ys : List UInt8} (w : World) (h1 : Rd w B1 A1 c1 xs) (h2 : Rd w B2 A2 c2 ys) (hB1 : B1 ≤ w.heap.size) (hB2 : B2 ≤ w.heap.size) (hl : xs.length ≤ 140737488355328) (hn : xs.length = ys.length) :
    Calls Tryd.prog 16 #[.slice A1 xs.length c1, .slice A2 ys.length c2] w fun e w' => ∃ A' c', e = .returned (.tuple #[.slice A' xs.length c', .int .i64 0]) ∧ Own w' w.heap.size 5 A' c' (xorL xs ys) ∧ Below w.heap.size w w' := by
  have ht : ((xs.length : Int) != (ys.length : Int)) = false := by simp [hn]
  have HN := Lib.hid hn
  clear hn
  obtain ⟨i0, hi, hz0, hz1, hz2⟩ := info_parts infoByte
  have hmk := run_mk (P := Tryd.prog) 22 5 i0 Tryd.underlying22 hi hz0 hz1 hz2 (l := (xs.length : Int)) (n := xs.length) rfl (by omega)
  have hm : Own (w.alloc (.cells (madeCells #[.int .u8 0] xs.length) 5)) w.heap.size 5 (some ⟨w.heap.size, 0, none⟩) xs.length (List.replicate xs.length 0) := Own.made 5 (Nat.le_refl _) (by unfold maxLen; omega)
  have hb0 : Below w.heap.size w (w.alloc (.cells (madeCells #[.int .u8 0] xs.length) 5)) := (Below.refl _ w).alloc (Nat.le_refl _) _
  go_enter Tryd.func16, Tryd.ntmps16
  go_wp2
  go_loopw [18] (fun i wr => ∃ k : Nat, k ≤ xs.length ∧ i = .int .i64 k ∧ Own wr w.heap.size 5 (some ⟨w.heap.size, 0, none⟩) xs.length (fill (fun k => UInt8.ofNat (nth xs k ^^^ nth ys k)) xs.length k) ∧ Below w.heap.size w wr)
    (fun i _ => xs.length - (intOf i).toNat)
  case atStart => exact ⟨0, Nat.zero_le _, rfl, by rw [fill_zero]; exact hm, hb0⟩
  case round =>
    obtain ⟨k, hk, rfl, ho, hb⟩ := hrel
    clear hm hb0 hmk
    by_cases hlt : k < xs.length
    · have g1 : (k : Int) < (xs.length : Int) := by omega
      have g2 : (k : Int) < (ys.length : Int) := by have := HN.out; omega
      obtain ⟨b1, o1, rfl, hb1, cc1⟩ := (h1.mono hB1).at_ hlt
      obtain ⟨b2, o2, rfl, hb2, cc2⟩ := (h2.mono hB2).at_ (by rw [← HN.out]; exact hlt)
      have c1' : wr.cell? ⟨b1, o1 + k, none⟩ = some (.int .u8 (nth xs k : Int)) := (hb.cell (p := ⟨b1, o1 + k, none⟩) hb1).trans cc1
      have c2' : wr.cell? ⟨b2, o2 + k, none⟩ = some (.int .u8 (nth ys k : Int)) := (hb.cell (p := ⟨b2, o2 + k, none⟩) hb2).trans cc2
      have e1 : wr.cell? ⟨w.heap.size, k, none⟩ = some (.int .u8 (nth (fill (fun k => UInt8.ofNat (nth xs k ^^^ nth ys k)) xs.length k) k : Int)) := ho.cell (by rw [fill_length]; exact hlt)
      have e2 : wr.frozen? ⟨w.heap.size, k, none⟩ = false := ho.free _
      have x1 : bits BinOp.xor IntKind.u8 (nth xs k : Int) (nth ys k : Int) = ((UInt8.ofNat (nth xs k ^^^ nth ys k)).toNat : Int) := by rw [u8_xor_nat _ _ (nth_lt _ _) (nth_lt _ _), xorb_toNat]
      go_wp2
      go_region
      go_wp2
      go_roundw
      case rel =>
        refine ⟨k + 1, by omega, by go_num, ?_, (hb.setCell (Nat.le_refl _) _).drew⟩
        rw [Nat.mod_eq_of_lt (nth_lt xs k), Nat.mod_eq_of_lt (nth_lt ys k), ← xorb_toNat, ← fill_set _ _ k rfl]
        exact ho.set_ k _
      case measure => simp [intOf]; omega
    · have hk' : k = xs.length := by omega
      subst hk'
      rw [fill_full] at ho
      go_wp2
      go_ret2
      exact ⟨_, _, rfl, ho, hb⟩
set_option maxHeartbeats 400000 in
theorem xor_bad {A1 A2 : Option Addr} {c1 c2 n1 n2 : Nat} (w : World) (hn : n1 ≠ n2) :
    Calls Tryd.prog 16 #[.slice A1 n1 c1, .slice A2 n2 c2] w fun e w' => e = .returned (.tuple #[.slice none 0 0, .int .i64 1]) ∧ w = w' := by
  have ht : ((n1 : Int) != (n2 : Int)) = true := by simp; omega
  go_enter Tryd.func16, Tryd.ntmps16
  go_wp2
  go_ret2
  exact ⟨rfl, rfl⟩
end Go.Proofs.YtebhefgfebghkaaDoor
