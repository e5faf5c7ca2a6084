import Derived.Test.YtebhefgfebghkaaDoorW3
namespace Go.Proofs.YtebhefgfebghkaaDoor
open Go Go.RowKit

/-- The digit of a half. -/
def dig (n : Nat) : Nat := if n < 10 then 48 + n else 87 + n
/-- The table of digits stands in block 0. -/
def Tab (w : World) : Prop := ∀ d, d < 16 → w.cell? ⟨0, d, none⟩ = some (.int .u8 (dig d : Int))
theorem Tab.keep {w w' : World} {B : Nat} (h : Tab w) (hb : Below B w w') (hB : 0 < B) : Tab w' := fun d hd => (hb.cell (p := ⟨0, d, none⟩) hB).trans (h d hd)
theorem Tab.pos {w : World} (h : Tab w) : 0 < w.heap.size := World.block_lt_of_cell? w _ (h 0 (by decide))
def hexd (bs : List UInt8) (i : Nat) : UInt8 := UInt8.ofNat (dig (if i % 2 = 0 then nth bs (i / 2) / 16 else nth bs (i / 2) % 16))
def hexL (bs : List UInt8) : List UInt8 := gen (hexd bs) (2 * bs.length)
theorem dig_lt {n : Nat} (h : n < 16) : dig n < 256 := by unfold dig; split <;> omega
theorem hexd_even (bs : List UInt8) (k : Nat) : ((hexd bs (2 * k)).toNat : Int) = (dig (nth bs k / 16) : Int) := by
  have h := nth_lt bs k
  have e : 2 * k / 2 = k := by omega
  have := dig_lt (n := nth bs k / 16) (by omega)
  simp only [hexd, Nat.mul_mod_right, if_true, UInt8.toNat_ofNat', e]
  omega
theorem hexd_odd (bs : List UInt8) (k : Nat) : ((hexd bs (2 * k + 1)).toNat : Int) = (dig (nth bs k % 16) : Int) := by
  have e : (2 * k + 1) / 2 = k := by omega
  have e2 : (2 * k + 1) % 2 = 1 := by omega
  have := dig_lt (n := nth bs k % 16) (by omega)
  simp only [hexd, e2, UInt8.toNat_ofNat', e]
  rw [if_neg (by decide)]
  omega

set_option maxHeartbeats 400000 in
theorem hex_any {A : Option Addr} {c B : Nat} {xs : List UInt8} (w : World) (h1 : Rd w B A c xs) (hB : B ≤ w.heap.size) (hT : Tab w) (hl : xs.length ≤ 140737488355328) :
    Calls Tryd.prog 24 #[.slice A xs.length c] w fun e w' => e = .returned (.string ⟨(hexL xs).toArray⟩) ∧ Below w.heap.size w w' := by
  obtain ⟨i0, hi, hz0, hz1, hz2⟩ := info_parts infoByte
  have hmk := run_mk (P := Tryd.prog) 22 5 i0 Tryd.underlying22 hi hz0 hz1 hz2 (l := 2 * (xs.length : Int)) (n := 2 * xs.length) (by omega) (by omega)
  have hm : Own (w.alloc (.cells (madeCells #[.int .u8 0] (2 * xs.length)) 5)) w.heap.size 5 (some ⟨w.heap.size, 0, none⟩) (2 * xs.length) (List.replicate (2 * xs.length) 0) := Own.made 5 (Nat.le_refl _) (by unfold maxLen; omega)
  have hb0 : Below w.heap.size w (w.alloc (.cells (madeCells #[.int .u8 0] (2 * xs.length)) 5)) := (Below.refl _ w).alloc (Nat.le_refl _) _
  go_enter Tryd.func24, Tryd.ntmps24
  go_wp2
  go_loopw [11] (fun i wr => ∃ k : Nat, k ≤ xs.length ∧ i = .int .i64 k ∧ Own wr w.heap.size 5 (some ⟨w.heap.size, 0, none⟩) (2 * xs.length) (fill (hexd xs) (2 * xs.length) (2 * k)) ∧ Below w.heap.size w wr)
    (fun i _ => xs.length - (intOf i).toNat)
  case atStart => exact ⟨0, Nat.zero_le _, rfl, by rw [Nat.mul_zero, fill_zero]; exact hm, hb0⟩
  case round =>
    obtain ⟨k, hk, rfl, ho, hb⟩ := hrel
    clear hm hb0 hmk
    by_cases hlt : k < xs.length
    · have g1 : (k : Int) < (xs.length : Int) := by omega
      have g2 : 2 * k < 2 * xs.length := by omega
      have g3 : 2 * k + 1 < 2 * xs.length := by omega
      obtain ⟨b1, o1, rfl, hb1, c1⟩ := (h1.mono hB).at_ hlt
      have c1' : wr.cell? ⟨b1, o1 + k, none⟩ = some (.int .u8 (nth xs k : Int)) := (hb.cell (p := ⟨b1, o1 + k, none⟩) hb1).trans c1
      have e1 : wr.cell? ⟨w.heap.size, 2 * k, none⟩ = some (.int .u8 (nth (fill (hexd xs) (2 * xs.length) (2 * k)) (2 * k) : Int)) := ho.cell (by rw [fill_length]; exact g2)
      have e2 : wr.frozen? ⟨w.heap.size, 2 * k, none⟩ = false := ho.free _
      have e3 : wr.cell? ⟨w.heap.size, 2 * k + 1, none⟩ = some (.int .u8 (nth (fill (hexd xs) (2 * xs.length) (2 * k)) (2 * k + 1) : Int)) := ho.cell (by rw [fill_length]; exact g3)
      have e4 : wr.frozen? ⟨w.heap.size, 2 * k + 1, none⟩ = false := ho.free _
      have nl := nth_lt xs k
      have hTr := hT.keep hb hT.pos
      have t1 := hTr (nth xs k / 16) (by omega)
      have t2 := hTr (nth xs k % 16) (by omega)
      have a15 : bits BinOp.and IntKind.u8 (nth xs k : Int) 15 = (nth xs k : Int) % 16 := u8_and15 _ (by omega) (by omega)
      clear hTr
      go_wp2
      go_roundw
      case rel =>
        refine ⟨k + 1, by omega, by go_num, ?_, (hb.setCell (Nat.le_refl _) _).setCell (Nat.le_refl _) _⟩
        rw [← hexd_even, ← hexd_odd, show 2 * (k + 1) = 2 * k + 1 + 1 from by omega, ← fill_set _ _ (2 * k + 1) rfl, ← fill_set _ _ (2 * k) rfl]
        exact (ho.set_ _ _).set_ _ _
      case measure => simp [intOf]; omega
    · have hk' : k = xs.length := by omega
      subst hk'
      rw [fill_full] at ho
      have hc := run_str (P := Tryd.prog) wr 22 5 Tryd.underlying22 Tryd.underlying5 Tryd.underlying9 ho.rd
      rw [gen_length] at hc
      go_wp2
      go_ret
      exact ⟨rfl, hb⟩
end Go.Proofs.YtebhefgfebghkaaDoor
