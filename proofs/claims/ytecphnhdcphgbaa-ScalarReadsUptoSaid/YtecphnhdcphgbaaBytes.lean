import Derived.Test.YtecphnhdcphgbaaFrom
namespace Go.Proofs.Ytecphnhdcphgbaa
open Go Go.RowKit
theorem infoByte : (Try.prog.info? 5).map (fun i => (i.zero, i.size, i.bytes)) = some (some (.int .u8 0), 1, 1) := by kernel_rfl
theorem info_parts {t : TypeId} {z : Option Value} {s b : Nat} (h : (Try.prog.info? t).map (fun i => (i.zero, i.size, i.bytes)) = some (z, s, b)) : ∃ i, Try.prog.info? t = some i ∧ i.zero = z ∧ i.size = s ∧ i.bytes = b := by
  cases hi : Try.prog.info? t with
  | none => rw [hi] at h; simp at h
  | some i => rw [hi] at h; simp at h; exact ⟨i, rfl, h.1, h.2.1, h.2.2⟩
theorem by_wd (x i : Nat) : wd x (i / 8) / 2 ^ (8 * (i % 8)) % 256 = by8 x i := by
  have h : ∀ y s, s < 8 → (y % 18446744073709551616) / 256 ^ s % 256 = y / 256 ^ s % 256 := fun y s hs => dgt_mod (b := 256) (n := 8) y hs
  unfold wd by8 dgt
  rw [Nat.pow_mul, show (2 : Nat) ^ 8 = 256 from rfl, h _ _ (by omega), Nat.div_div_eq_div_mul, show (18446744073709551616 : Nat) = 256 ^ 8 from rfl, ← Nat.pow_mul, ← Nat.pow_add, Nat.div_add_mod]
theorem wrap_by (x i : Nat) : IntKind.u8.wrap ((wd x (i / 8) : Int) / 2 ^ (8 * (i % 8))) = (by8 x i : Int) := by
  have e : (wd x (i / 8) : Int) / 2 ^ (8 * (i % 8)) = ((wd x (i / 8) / 2 ^ (8 * (i % 8)) : Nat) : Int) := by rw [Int.natCast_ediv, Int.natCast_pow]; rfl
  rw [e, ← by_wd, IntKind.wrap_u8]
  omega
/-- The i-th byte. -/
def bf (x i : Nat) : UInt8 := UInt8.ofNat (by8 x i)
theorem bf_nat (x i : Nat) : (bf x i).toNat = by8 x i := by
  have := by8_lt x i
  simp only [bf, UInt8.toNat_ofNat']
  omega
theorem bytes_any (x : Nat) (w : World) :
    Calls Try.prog 42 #[nv x] w fun e w' => ∃ A c, e = .returned (.slice A 32 c) ∧ Own w' w.heap.size 5 A c (gen (bf x) 32) ∧ Below w.heap.size w w' := by
  obtain ⟨i0, hi, hz0, hz1, hz2⟩ := info_parts infoByte
  have ha := own_A4 (w := w) (Nat.le_refl _) x
  have s1 : (w.alloc (A4 x)).heap.size = w.heap.size + 1 := by simp
  have b1 := (Below.refl w.heap.size w).alloc (Nat.le_refl _) (A4 x)
  have hmk := run_mk (P := Try.prog) 22 5 i0 Try.underlying22 hi hz0 hz1 hz2 (l := 32) (n := 32) rfl (by omega)
  have hm : Own ((w.alloc (A4 x)).alloc (.cells (madeCells #[.int .u8 0] 32) 5)) w.heap.size 5 (some ⟨w.heap.size + 1, 0, none⟩) 32 (List.replicate 32 0) := by
    have := Own.made (w := w.alloc (A4 x)) (B := w.heap.size) (n := 32) 5 (by omega) (by decide)
    rw [s1] at this
    exact this
  have b2 := (Below.refl (w.heap.size + 1) (w.alloc (A4 x))).alloc (by omega) (.cells (madeCells #[.int .u8 0] 32) 5)
  have hra := (ha.rd.mono (B' := w.heap.size + 1) (by omega)).keep b2
  have hb0 := b1.trans (b2.mono (by omega))
  unfold nv
  go_enter Try.func42, Try.ntmps42
  go_wp2
  go_loopw [8] (fun i wr => ∃ k : Nat, k ≤ 32 ∧ i = .int .i64 k ∧ RdF wr (w.heap.size + 1) (some ⟨w.heap.size, 0, none⟩) 4 4 (wv x) ∧ Own wr w.heap.size 5 (some ⟨w.heap.size + 1, 0, none⟩) 32 (fill (bf x) 32 k) ∧ Below w.heap.size w wr)
    (fun i _ => 32 - (intOf i).toNat)
  case atStart => exact ⟨0, by omega, rfl, hra, by rw [fill_zero]; exact hm, hb0⟩
  case round =>
    obtain ⟨k, hk, rfl, ra, os, hb⟩ := hrel
    clear hmk hm b1 b2 hra hb0 ha
    by_cases hlt : k < 32
    · have g1 : (k : Int) < 32 := by omega
      have c1 := ra.cell0 (k := k / 8) (by omega)
      unfold wv at c1
      have c2 := os.cell (k := k) (by rw [fill_length]; exact hlt)
      have f2 := os.free k
      have g2 : IntKind.i64.wrap ((k : Int) / 8) = (k : Int) / 8 := by rw [IntKind.wrap_i64]; omega
      have g3 : (k : Int).tmod 8 = (k : Int) % 8 := Int.tmod_eq_emod_of_nonneg (by omega)
      have g4 : (k : Int) / 8 < 4 := by omega
      have g5 : IntKind.i64.wrap (8 * ((k : Int) % 8)) = 8 * ((k : Int) % 8) := by rw [IntKind.wrap_i64]; omega
      have g6 : 0 ≤ (k : Int) / 8 := by omega
      have g7 : ((k : Int) / 8).toNat = k / 8 := by omega
      have g8 : 0 ≤ 8 * ((k : Int) % 8) := by omega
      have g9 : (8 * ((k : Int) % 8)).toNat = 8 * (k % 8) := by omega
      have gb := wrap_by x k
      rw [← bf_nat] at gb
      go_wp2
      have hset : Below (w.heap.size + 1) wr (wr.setCell ⟨w.heap.size + 1, k, none⟩ (.int .u8 ((bf x k).toNat : Int))) := (Below.refl (w.heap.size + 1) wr).setCell (Nat.le_refl (w.heap.size + 1)) _
      refine ⟨⟨k + 1, by omega, by go_num, ra.keep hset, ?_, hb.trans (hset.mono (by omega))⟩, by simp [intOf]; omega⟩
      rw [← fill_set _ _ k rfl]
      exact os.set_ k _
    · have hk' : k = 32 := by omega
      subst hk'
      rw [fill_full] at os
      go_wp2
      go_ret
      exact ⟨_, _, rfl, os, hb⟩
end Go.Proofs.Ytecphnhdcphgbaa
