import Derived.Test.YtebhefgfebghkaaDoorL10
namespace Go.Proofs.YtebhefgfebghkaaDoor
open Go Go.RowKit

def get0 (xs : List UInt8) (k : Nat) : UInt8 := xs[k]?.getD 0
theorem get0_toNat (xs : List UInt8) (k : Nat) : ((get0 xs k).toNat : Int) = (nth xs k : Int) := rfl
theorem gen_get0 {xs : List UInt8} {n : Nat} (h : xs.length = n) : gen (get0 xs) n = xs := by
  subst h
  refine List.ext_getElem (by simp [gen]) fun i h1 h2 => ?_
  simp [gen, get0, h2]
theorem pick_bits0 {a b : Nat} (ha : a < 256) (hb : b < 256) : bits BinOp.xor IntKind.u8 (a : Int) (bits BinOp.and IntKind.u8 0 (bits BinOp.xor IntKind.u8 (a : Int) (b : Int))) = (a : Int) := by
  have hx := xor_lt ha hb
  rw [u8_xor_nat _ _ ha hb, show (0 : Int) = ((0 : Nat) : Int) from rfl, u8_and_nat _ _ (by decide) hx, Nat.zero_and, u8_xor_nat _ _ ha (by decide), Nat.xor_zero]
theorem pick_bits1 {a b : Nat} (ha : a < 256) (hb : b < 256) : bits BinOp.xor IntKind.u8 (a : Int) (bits BinOp.and IntKind.u8 255 (bits BinOp.xor IntKind.u8 (a : Int) (b : Int))) = (b : Int) := by
  have hx := xor_lt ha hb
  rw [u8_xor_nat _ _ ha hb, show (255 : Int) = ((255 : Nat) : Int) from rfl, u8_and_nat _ _ (by decide) hx, Nat.and_comm, show (255 : Nat) = 2 ^ 8 - 1 from rfl, Nat.and_two_pow_sub_one_of_lt_two_pow hx, u8_xor_nat _ _ ha hx, ← Nat.xor_assoc, Nat.xor_self, Nat.zero_xor]

set_option maxHeartbeats 800000 in
theorem pick_0 {A1 A2 : Option Addr} {c1 c2 B1 B2: Nat} {xs ys : List UInt8} (w : World) (h1 : Rd w B1 A1 c1 xs) (h2 : Rd w B2 A2 c2 ys) (hB1 : B1 ≤ w.heap.size) (hB2 : B2 ≤ w.heap.size) (hl : xs.length ≤ 140737488355328) (hn : xs.length = ys.length) :
    Calls Tryd.prog 18 #[.int .i64 0, .slice A1 xs.length c1, .slice A2 ys.length c2] w fun e w' => ∃ g, e = .returned (.tuple #[.slice (some ⟨g, 0, none⟩) xs.length xs.length, .int .i64 0]) ∧ Own w' w.heap.size 5 (some ⟨g, 0, none⟩) xs.length xs ∧ Below w.heap.size w w' := by
  have ht : ((xs.length : Int) != (ys.length : Int)) = false := by simp [hn]
  have HN := Lib.hid hn
  clear hn
  obtain ⟨i0, hi, hz0, hz1, hz2⟩ := info_parts infoByte
  have hmk := run_mk (P := Tryd.prog) 22 5 i0 Tryd.underlying22 hi hz0 hz1 hz2 (l := (xs.length : Int)) (n := xs.length) rfl (by omega)
  have hm : Own (w.alloc (.cells (madeCells #[.int .u8 0] xs.length) 5)) w.heap.size 5 (some ⟨w.heap.size, 0, none⟩) xs.length (List.replicate xs.length 0) := Own.made 5 (Nat.le_refl _) (by unfold maxLen; omega)
  have hb0 : Below w.heap.size w (w.alloc (.cells (madeCells #[.int .u8 0] xs.length) 5)) := (Below.refl _ w).alloc (Nat.le_refl _) _
  go_enter Tryd.func18, Tryd.ntmps18
  go_wp2
  clear ht
  go_loopw [32] (fun i wr => ∃ k : Nat, k ≤ xs.length ∧ i = .int .i64 k ∧ Own wr w.heap.size 5 (some ⟨w.heap.size, 0, none⟩) xs.length (fill (get0 xs) xs.length k) ∧ Below w.heap.size w wr)
    (fun i _ => xs.length - (intOf i).toNat)
  case atStart => exact ⟨0, Nat.zero_le _, rfl, by rw [fill_zero]; exact hm, hb0⟩
  case round =>
    obtain ⟨k, hk, rfl, ho, hb⟩ := hrel
    clear hm hb0 hmk
    by_cases hlt : k < xs.length
    · have g1 : (k : Int) < (xs.length : Int) := by omega
      have g2 : (k : Int) < (ys.length : Int) := by have := HN.out; omega
      obtain ⟨b1, o1, rfl, hb1, cc1⟩ := (h1.mono hB1).at_ hlt
      obtain ⟨b2, o2, rfl, hb2, cc2⟩ := (h2.mono hB2).at_ (by rw [← HN.out]; exact hlt)
      have c1' : wr.cell? ⟨b1, o1 + k, none⟩ = some (.int .u8 (nth xs k : Int)) := (hb.cell (p := ⟨b1, o1 + k, none⟩) hb1).trans cc1
      have c2' : wr.cell? ⟨b2, o2 + k, none⟩ = some (.int .u8 (nth ys k : Int)) := (hb.cell (p := ⟨b2, o2 + k, none⟩) hb2).trans cc2
      have e1 : wr.cell? ⟨w.heap.size, k, none⟩ = some (.int .u8 (nth (fill (get0 xs) xs.length k) k : Int)) := ho.cell (by rw [fill_length]; exact hlt)
      have e2 : wr.frozen? ⟨w.heap.size, k, none⟩ = false := ho.free _
      have x0 := nth_lt xs k
      have x1 := nth_lt ys k
      go_wp2
      go_region
      go_wp2
      go_roundw
      case rel =>
        refine ⟨k + 1, by omega, by go_num, ?_, (hb.setCell (Nat.le_refl _) _).drew⟩
        rw [pick_bits0 x0 x1, ← get0_toNat, ← fill_set _ _ k rfl]
        exact ho.set_ k _
      case measure => simp [intOf]; omega
    · have hk' : k = xs.length := by omega
      subst hk'
      rw [fill_full, gen_get0 rfl] at ho
      go_wp2
      go_ret2
      exact ⟨_, rfl, ho, hb⟩

set_option maxHeartbeats 800000 in
theorem pick_1 {A1 A2 : Option Addr} {c1 c2 B1 B2: Nat} {xs ys : List UInt8} (w : World) (h1 : Rd w B1 A1 c1 xs) (h2 : Rd w B2 A2 c2 ys) (hB1 : B1 ≤ w.heap.size) (hB2 : B2 ≤ w.heap.size) (hl : xs.length ≤ 140737488355328) (hn : xs.length = ys.length) :
    Calls Tryd.prog 18 #[.int .i64 1, .slice A1 xs.length c1, .slice A2 ys.length c2] w fun e w' => ∃ g, e = .returned (.tuple #[.slice (some ⟨g, 0, none⟩) xs.length xs.length, .int .i64 0]) ∧ Own w' w.heap.size 5 (some ⟨g, 0, none⟩) xs.length ys ∧ Below w.heap.size w w' := by
  have ht : ((xs.length : Int) != (ys.length : Int)) = false := by simp [hn]
  have HN := Lib.hid hn
  clear hn
  obtain ⟨i0, hi, hz0, hz1, hz2⟩ := info_parts infoByte
  have hmk := run_mk (P := Tryd.prog) 22 5 i0 Tryd.underlying22 hi hz0 hz1 hz2 (l := (xs.length : Int)) (n := xs.length) rfl (by omega)
  have hm : Own (w.alloc (.cells (madeCells #[.int .u8 0] xs.length) 5)) w.heap.size 5 (some ⟨w.heap.size, 0, none⟩) xs.length (List.replicate xs.length 0) := Own.made 5 (Nat.le_refl _) (by unfold maxLen; omega)
  have hb0 : Below w.heap.size w (w.alloc (.cells (madeCells #[.int .u8 0] xs.length) 5)) := (Below.refl _ w).alloc (Nat.le_refl _) _
  go_enter Tryd.func18, Tryd.ntmps18
  go_wp2
  clear ht
  go_loopw [32] (fun i wr => ∃ k : Nat, k ≤ xs.length ∧ i = .int .i64 k ∧ Own wr w.heap.size 5 (some ⟨w.heap.size, 0, none⟩) xs.length (fill (get0 ys) xs.length k) ∧ Below w.heap.size w wr)
    (fun i _ => xs.length - (intOf i).toNat)
  case atStart => exact ⟨0, Nat.zero_le _, rfl, by rw [fill_zero]; exact hm, hb0⟩
  case round =>
    obtain ⟨k, hk, rfl, ho, hb⟩ := hrel
    clear hm hb0 hmk
    by_cases hlt : k < xs.length
    · have g1 : (k : Int) < (xs.length : Int) := by omega
      have g2 : (k : Int) < (ys.length : Int) := by have := HN.out; omega
      obtain ⟨b1, o1, rfl, hb1, cc1⟩ := (h1.mono hB1).at_ hlt
      obtain ⟨b2, o2, rfl, hb2, cc2⟩ := (h2.mono hB2).at_ (by rw [← HN.out]; exact hlt)
      have c1' : wr.cell? ⟨b1, o1 + k, none⟩ = some (.int .u8 (nth xs k : Int)) := (hb.cell (p := ⟨b1, o1 + k, none⟩) hb1).trans cc1
      have c2' : wr.cell? ⟨b2, o2 + k, none⟩ = some (.int .u8 (nth ys k : Int)) := (hb.cell (p := ⟨b2, o2 + k, none⟩) hb2).trans cc2
      have e1 : wr.cell? ⟨w.heap.size, k, none⟩ = some (.int .u8 (nth (fill (get0 ys) xs.length k) k : Int)) := ho.cell (by rw [fill_length]; exact hlt)
      have e2 : wr.frozen? ⟨w.heap.size, k, none⟩ = false := ho.free _
      have x0 := nth_lt xs k
      have x1 := nth_lt ys k
      go_wp2
      go_region
      go_wp2
      go_roundw
      case rel =>
        refine ⟨k + 1, by omega, by go_num, ?_, (hb.setCell (Nat.le_refl _) _).drew⟩
        rw [pick_bits1 x0 x1, ← get0_toNat, ← fill_set _ _ k rfl]
        exact ho.set_ k _
      case measure => simp [intOf]; omega
    · have hk' : k = xs.length := by omega
      subst hk'
      rw [fill_full, gen_get0 HN.out.symm] at ho
      go_wp2
      go_ret2
      exact ⟨_, rfl, ho, hb⟩

set_option maxHeartbeats 400000 in
theorem pick_arg {A1 A2 : Option Addr} {c1 c2 n1 n2 : Nat} (b : Int) (w : World) (hb : (b ≠ 0 ∧ b ≠ 1) ∨ n1 ≠ n2) :
    Calls Tryd.prog 18 #[.int .i64 b, .slice A1 n1 c1, .slice A2 n2 c2] w fun e w' => e = .returned (.tuple #[.slice none 0 0, .int .i64 1]) ∧ w = w' := by
  by_cases h0 : b ≠ 0 ∧ b ≠ 1
  · have t1 : (b != 0) = true := by simpa using h0.1
    have t2 : (b != 1) = true := by simpa using h0.2
    clear hb h0
    go_enter Tryd.func18, Tryd.ntmps18
    go_wp2
    go_ret2
    exact ⟨rfl, rfl⟩
  · have hn := hb.resolve_left h0
    have t3 : ((n1 : Int) != (n2 : Int)) = true := by simp; omega
    have h01 : b = 0 ∨ b = 1 := by omega
    clear hb h0 hn
    rcases h01 with rfl | rfl
    · go_enter Tryd.func18, Tryd.ntmps18
      go_wp2
      go_ret2
      exact ⟨rfl, rfl⟩
    · go_enter Tryd.func18, Tryd.ntmps18
      go_wp2
      go_ret2
      exact ⟨rfl, rfl⟩
set_option maxHeartbeats 400000 in
theorem rpick_0 {A1 A2 : Option Addr} {c1 c2 n1 n2 : Nat} (w : World) (hn : n1 = n2) :
    Calls Tryd.prog 19 #[.int .i64 0, .slice A1 n1 c1, .slice A2 n2 c2] w fun e w' => e = .returned (.tuple #[.slice A1 n1 c1, .int .i64 0]) ∧ w = w' := by
  subst hn
  go_enter Tryd.func19, Tryd.ntmps19
  go_wp2
  go_ret2
  exact ⟨rfl, rfl⟩
set_option maxHeartbeats 400000 in
theorem rpick_1 {A1 A2 : Option Addr} {c1 c2 n1 n2 : Nat} (w : World) (hn : n1 = n2) :
    Calls Tryd.prog 19 #[.int .i64 1, .slice A1 n1 c1, .slice A2 n2 c2] w fun e w' => e = .returned (.tuple #[.slice A2 n2 c2, .int .i64 0]) ∧ w = w' := by
  subst hn
  go_enter Tryd.func19, Tryd.ntmps19
  go_wp2
  go_ret2
  exact ⟨rfl, rfl⟩
set_option maxHeartbeats 400000 in
theorem rpick_arg {A1 A2 : Option Addr} {c1 c2 n1 n2 : Nat} (b : Int) (w : World) (hb : (b ≠ 0 ∧ b ≠ 1) ∨ n1 ≠ n2) :
    Calls Tryd.prog 19 #[.int .i64 b, .slice A1 n1 c1, .slice A2 n2 c2] w fun e w' => e = .returned (.tuple #[.slice none 0 0, .int .i64 1]) ∧ w = w' := by
  by_cases hn : n1 = n2
  · have h0 := hb.resolve_right (by omega)
    subst hn
    have t1 : (b == 0) = false := by simpa using h0.1
    have t2 : (b == 1) = false := by simpa using h0.2
    clear hb h0
    go_enter Tryd.func19, Tryd.ntmps19
    go_wp2
    go_ret2
    exact ⟨rfl, rfl⟩
  · have t3 : ((n1 : Int) != (n2 : Int)) = true := by simp; omega
    clear hb hn
    go_enter Tryd.func19, Tryd.ntmps19
    go_wp2
    go_ret2
    exact ⟨rfl, rfl⟩
end Go.Proofs.YtebhefgfebghkaaDoor
