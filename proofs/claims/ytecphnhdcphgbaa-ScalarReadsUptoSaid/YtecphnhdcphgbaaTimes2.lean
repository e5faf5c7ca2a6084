import Derived.Test.YtecphnhdcphgbaaTimes
namespace Go.Proofs.Ytecphnhdcphgbaa
open Go Go.RowKit
set_option maxRecDepth 20000 in
set_option maxHeartbeats 800000 in
theorem times_any {A A' : Option Addr} {B c c' n n' x y : Nat} (w : World) (h : Dig w B A c n x) (h' : Dig w B A' c' n' y) (hB : B ≤ w.heap.size) (hn : n ≤ 1000) (hn' : n' ≤ 1000) :
    Calls Try.prog 48 #[.slice A n c, .slice A' n' c'] w fun e w' => ∃ A c n, e = .returned (.slice A n c) ∧ DOwn w' w.heap.size A c n (x * y) ∧ Below w.heap.size w w' := by
  obtain ⟨i0, hi, hz0, hz1, hz2⟩ := info_parts infoInt
  obtain ⟨L, hL⟩ : ∃ L, L = n + n' + 1 := ⟨_, rfl⟩
  have hl1 : IntKind.i64.wrap ((n : Int) + (n' : Int)) = (n : Int) + (n' : Int) := by rw [IntKind.wrap_i64]; omega
  have hl2 : IntKind.i64.wrap ((n : Int) + (n' : Int) + 1) = (L : Int) := by rw [IntKind.wrap_i64]; omega
  have hLb : L ≤ 2001 := by omega
  have hmk := run_mkF (P := Try.prog) 29 3 i0 Try.underlying29 hi hz0 rfl hz1 hz2 (l := (L : Int)) (n := L) rfl (by omega) (by omega)
  have hm := OwnF.made (w := w) (B := w.heap.size) 3 (.int .i64 0) (n := L) (Nat.le_refl _) (by unfold maxLen; omega)
  have hb0 : Below w.heap.size w (w.alloc (.cells (madeCells #[.int .i64 0] L) 3)) := (Below.refl _ w).alloc (Nat.le_refl _) _
  have HL := Lib.hid hL
  clear hL
  go_enter Try.func48, Try.ntmps48
  go_wp2_with fail
  go_loopw [6] (fun i wr => ∃ k : Nat, k ≤ n ∧ i = .int .i64 k ∧ OwnF wr w.heap.size 3 (some ⟨w.heap.size, 0, none⟩) L L (dg8 (mT8 x y k)) ∧ Below w.heap.size w wr)
    (fun i _ => n - (intOf i).toNat)
  case atStart => exact ⟨0, by omega, rfl, hm.congr (fun j _ => by rw [mT8_zero, dg8_zero]), hb0⟩
  case round =>
    obtain ⟨i, hi', rfl, os, hb⟩ := hrel
    clear hmk hm hb0
    by_cases hlt : i < n
    · have g1 : (i : Int) < (n : Int) := by omega
      go_wp2_with fail
      obtain ⟨w0, e0⟩ : ∃ w0 : World, w0 = wr := ⟨_, rfl⟩
      subst e0
      go_loopw [7, 8] (fun cc kk wr => ∃ k : Nat, k ≤ n' + 1 ∧ kk = .int .i64 k ∧ cc = .int .i64 (mO8 x y i k : Int) ∧ OwnF wr w.heap.size 3 (some ⟨w.heap.size, 0, none⟩) L L (mc8 x y i k) ∧ Below w.heap.size w wr)
        (fun _ kk _ => n' + 1 - (intOf kk).toNat)
      case atStart => exact ⟨0, by omega, rfl, by rw [show mO8 x y i 0 = 0 from mO_zero (by decide)]; rfl, os.congr (fun j _ => (mc8_start _ _ _ _).symm), hb⟩
      case round =>
        clear os hb
        obtain ⟨k, hk, rfl, rfl, os, hb⟩ := hrel
        by_cases hgo : k < n' ∨ mO8 x y i k ≠ 0
        · have hkn : k ≤ n' := by
            rcases hgo with h1 | h1
            · omega
            · refine Nat.le_of_not_lt fun h2 => h1 (mO8_top h'.lt h2)
          have hguard : (k : Int) < (n' : Int) ∨ (¬ (k : Int) < (n' : Int) ∧ (0 : Int) < (mO8 x y i k : Int)) := by omega
          have ha := h.keep (hb.mono hB)
          have ha' := h'.keep (hb.mono hB)
          obtain ⟨b1, o1, rfl, hb1, c1⟩ := ha.rd.at_ hlt
          unfold dg8 at c1
          have c2 := os.cell (k := i + k) (by have := HL.out; omega)
          rw [mc8_at] at c2
          have f2 := os.free (i + k)
          have q1 : IntKind.i64.wrap ((i : Int) + (k : Int)) = (i : Int) + (k : Int) := by rw [IntKind.wrap_i64]; omega
          have q2 : (i : Int) + (k : Int) < (L : Int) := by have := HL.out; omega
          have q3 : 0 ≤ (i : Int) + (k : Int) := by omega
          have q4 : ((i : Int) + (k : Int)).toNat = i + k := by omega
          obtain ⟨p1, p2, p3⟩ := wrapT x y i k
          obtain ⟨e1, e1'⟩ := nmod (tt_mod x y i k)
          obtain ⟨e2, e2'⟩ := ndiv (tt_div x y i k)
          have hset : ∀ w1 : World, Below w.heap.size w1 (w1.setCell ⟨w.heap.size, i + k, none⟩ (.int .i64 (by8 (mS8 x y i (k + 1)) (i + k) : Int))) := fun w1 => (Below.refl w.heap.size w1).setCell (Nat.le_refl w.heap.size) _
          have os1 := os.drew
          have hb1' := hb.drew
          have HS := Lib.hid hset
          have hwr := Lib.hid (mO8_wrap x y i (k + 1))
          clear hset
          rcases hguard with g2 | ⟨g2, g3⟩
          all_goals
            go_wp2_with fail
            refine wp_region_still_lit (by kernel_rfl) (by kernel_rfl) ?_
            repeat (first | still_step | still_call (at_any _ ha'.drew k))
            refine wpStill_nil ?_
            have ew : ({ heap := wr.heap, tape := wr.tape, drawn := wr.drawn + 1, os := wr.os, output := wr.output } : World) = wr.drew := rfl
            rw [ew]
            obtain ⟨w1, hw1⟩ : ∃ w1, w1 = wr.drew := ⟨_, rfl⟩
            rw [← hw1] at os1 hb1' ⊢
            clear os hb c1 c2 f2 ew hw1 hb1
            have c2 := os1.cell (k := i + k) (by have := HL.out; omega)
            rw [mc8_at] at c2
            have f2 := os1.free (i + k)
            go_wp2_with fail
            refine ⟨⟨k + 1, by omega, by go_num, by rw [hwr.out], ?_, hb1'.trans (HS.out w1)⟩, by simp [intOf]; omega⟩
            exact (os1.set_ (i + k) (.int .i64 (by8 (mS8 x y i (k + 1)) (i + k) : Int))).congr fun j _ => mc8_set _ _ _ _ _
        · have g2 : ¬ (k : Int) < (n' : Int) := by omega
          have h0 : mO8 x y i k = 0 := by omega
          have g3 : (mO8 x y i k : Int) = 0 := by omega
          have H0 := Lib.hid h0
          clear hgo h0
          have hkn : n' ≤ k := by omega
          have os' := os.congr (g := dg8 (mT8 x y (i + 1))) fun j _ => mc8_end h'.lt hkn H0.out j
          go_wp2_with fail
          go_roundw
          case rel => exact ⟨i + 1, by omega, by go_num, os', hb⟩
          case measure => simp [intOf]; omega
    · have hk' : i = n := by omega
      subst hk'
      rw [mT8_full y h.lt] at os
      have hlx : x * y < 256 ^ L := by
        rw [HL.out, Nat.add_assoc, Nat.pow_add]
        exact Nat.mul_lt_mul_of_lt_of_le h.lt (Nat.le_trans (Nat.le_of_lt h'.lt) (Nat.pow_le_pow_right (by decide) (by omega))) (Nat.pow_pos (by decide))
      go_wp2_with fail
      go_at_call 40
      refine (trim_any (x := x * y) _ ⟨os.rd, hlx⟩ (by omega)).mono ?_
      rintro e w1 ⟨n2, hn2, rfl, hx', hc, rfl⟩
      go_wp2
      go_ret
      exact ⟨_, L, n2, rfl, DOwn.trim os (Nat.le_refl _) hn2 hx' hc, hb⟩
end Go.Proofs.Ytecphnhdcphgbaa
