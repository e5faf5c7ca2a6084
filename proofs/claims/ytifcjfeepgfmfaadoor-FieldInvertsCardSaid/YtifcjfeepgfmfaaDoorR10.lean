import Derived.Test.YtifcjfeepgfmfaaDoorR9
namespace Go.Proofs.YtifcjfeepgfmfaaDoor
open Go Go.RowKit
/-- A power, digit by digit and bit by bit from the lowest. -/
def pe (a e i k : Nat) : Nat := a ^ (e % 256 ^ i + 256 ^ i * (by8 e i % 2 ^ k)) % P25
def pb (a i k : Nat) : Nat := a ^ (256 ^ i * 2 ^ k) % P25
theorem pe_start (a e : Nat) : pe a e 0 0 = 1 := by
  have e1 : e % 256 ^ 0 + 256 ^ 0 * (by8 e 0 % 2 ^ 0) = 0 := by simp [Nat.mod_one]
  unfold pe; rw [e1, Nat.pow_zero]; decide +kernel
theorem pb_start {a : Nat} (ha : a < P25) : pb a 0 0 = a := by
  have e1 : 256 ^ 0 * 2 ^ 0 = 1 := rfl
  unfold pb; rw [e1, Nat.pow_one, Nat.mod_eq_of_lt ha]
theorem pb_step (a i k : Nat) : pb a i k * pb a i k % P25 = pb a i (k + 1) := by
  unfold pb; rw [← Nat.mul_mod, ← Nat.pow_add, Nat.pow_succ, ← Nat.mul_assoc, Nat.mul_two]
theorem bits_succ (d k : Nat) : d % 2 ^ (k + 1) = d % 2 ^ k + 2 ^ k * (d / 2 ^ k % 2) := mod_pow_succ' 2 d k
theorem pe_one {a e i k : Nat} (h : by8 e i / 2 ^ k % 2 = 1) : pe a e i k * pb a i k % P25 = pe a e i (k + 1) := by
  unfold pe pb; rw [← Nat.mul_mod, ← Nat.pow_add, bits_succ, h, Nat.mul_one, Nat.mul_add, Nat.add_assoc]
theorem pe_zero {a e i k : Nat} (h : by8 e i / 2 ^ k % 2 = 0) : pe a e i k = pe a e i (k + 1) := by
  unfold pe; rw [bits_succ, h, Nat.mul_zero, Nat.add_zero]
theorem pe_next (a e i : Nat) : pe a e i 8 = pe a e (i + 1) 0 := by
  have e1 : by8 e i % 2 ^ 8 = by8 e i := Nat.mod_eq_of_lt (by8_lt e i)
  have e2 : e % 256 ^ (i + 1) + 256 ^ (i + 1) * (by8 e (i + 1) % 2 ^ 0) = e % 256 ^ i + 256 ^ i * by8 e i := by
    rw [Nat.pow_zero, Nat.mod_one, Nat.mul_zero, Nat.add_zero, mod_pow_succ' 256 e i]; rfl
  unfold pe
  rw [e1, e2]
theorem pb_next (a i : Nat) : pb a i 8 = pb a (i + 1) 0 := by
  have e1 : 256 ^ (i + 1) * 2 ^ 0 = 256 ^ i * 2 ^ 8 := by rw [Nat.pow_zero, Nat.mul_one, Nat.pow_succ 256 i]
  unfold pb
  rw [e1]
theorem pe_end {a e n : Nat} (h : e < 256 ^ n) : pe a e n 0 = a ^ e % P25 := by
  unfold pe; rw [Nat.pow_zero, Nat.mod_one, Nat.mul_zero, Nat.add_zero, Nat.mod_eq_of_lt h]
theorem pe_W4 (a e i k : Nat) : pe a e i k < W4 := red_W4 _
theorem pb_W4 (a i k : Nat) : pb a i k < W4 := red_W4 _
attribute [local irreducible] wd by8 d16 set16w fl pe pb
set_option maxRecDepth 20000
set_option maxHeartbeats 3200000 in
theorem rpower_any {A : Option Addr} {B c n a e : Nat} (ha : a < P25) (hn : n ≤ 1000) (w : World) (h : Dig w B A c n e) (hB : B ≤ w.heap.size) :
    Calls Tryd.prog 29 #[fv a, .slice A n c] w fun r w' => r = .returned (fv (a ^ e % P25)) ∧ Below w.heap.size w w' := by
  obtain ⟨r, hr⟩ : ∃ r, r = a ^ e % P25 := ⟨_, rfl⟩
  rw [← hr]
  have HR := Lib.hid hr
  have HA := Lib.hid ha
  have K1 := Lib.hid (fun w => int_any (n := 1) (by decide) w)
  clear hr ha
  go_enter Tryd.func29, Tryd.ntmps29
  go_wp2_with fail
  go_at_call 57
  refine (K1.out _).mono ?_
  rintro e' v1 ⟨rfl, h0⟩
  obtain ⟨oz, hc⟩ := fres2 h0
  have oa := fbox1 h0
  clear h0
  have hoz := O16.zero (own_Z16 (w := v1) (B := w.heap.size) hc.size)
  have hb1 : Below v1.heap.size v1 (set16w (v1.alloc Z16) v1.heap.size 1) := ((Below.refl v1.heap.size v1).alloc (Nat.le_refl _) Z16).trans ((O16.zero (own_Z16 (w := v1) (Nat.le_refl _))).below 1)
  have oo := hoz.put 1
  have hn1 : v1.heap.size ≠ w.heap.size := Nat.ne_of_gt oa.lt
  have hn2 : v1.heap.size ≠ w.heap.size + 1 := Nat.ne_of_gt oz.lt
  go_wp2_with ((with_reducible refine fl_store hoz 1 ?_ ?_ ?_); rfl; rfl)
  obtain ⟨v2, e2⟩ : ∃ v, v = set16w (v1.alloc Z16) v1.heap.size 1 := ⟨_, rfl⟩
  rw [← e2] at hb1 oo ⊢
  clear e2 hoz
  replace oz := oz.keep hb1
  replace oa := oa.keep hb1
  replace hc := hc.trans (hb1.mono hc.size)
  clear hb1
  go_loopw [6] (fun ii wr => ∃ i : Nat, i ≤ n ∧ ii = .int .i64 i ∧ O16 wr w.heap.size v1.heap.size (pe a e i 0) ∧ O16 wr w.heap.size w.heap.size (pb a i 0) ∧ O16 wr w.heap.size (w.heap.size + 1) 0 ∧ Below w.heap.size w wr)
    (fun ii _ => n - (intOf ii).toNat)
  case atStart => exact ⟨0, by omega, rfl, by rw [pe_start]; exact oo, by rw [pb_start HA.out]; exact oa, oz, hc⟩
  case round =>
    clear oo oa oz hc
    obtain ⟨i, hi, rfl, oo, oa, oz, hc⟩ := hrel
    by_cases hlt : i < n
    · have g1 : (i : Int) < (n : Int) := by omega
      obtain ⟨b1, o1, rfl, hb1, c1⟩ := (h.keep (hc.mono hB)).rd.at_ hlt
      unfold dg8 at c1
      have gc := h.rd.cap
      obtain ⟨w0, e0⟩ : ∃ w0 : World, w0 = wr := ⟨_, rfl⟩
      subst e0
      go_wp2_with fail
      go_loopw [7, 8] (fun dd kk wr => ∃ k : Nat, k ≤ 8 ∧ kk = .int .i64 k ∧ dd = .int .i64 ((by8 e i / 2 ^ k : Nat) : Int) ∧ O16 wr w.heap.size v1.heap.size (pe a e i k) ∧ O16 wr w.heap.size w.heap.size (pb a i k) ∧ O16 wr w.heap.size (w.heap.size + 1) 0 ∧ Below w.heap.size w wr)
        (fun _ kk _ => 8 - (intOf kk).toNat)
      case atStart => exact ⟨0, by omega, rfl, by rw [Nat.pow_zero, Nat.div_one], oo, oa, oz, hc⟩
      case round =>
        clear oo oa oz hc c1
        obtain ⟨k, hk, rfl, rfl, oo, oa, oz, hc⟩ := hrel
        by_cases hlt2 : k < 8
        · have g2 : (k : Int) < 8 := by omega
          have kb := fun w => rmul_any (pb_W4 a i k) (pb_W4 a i k) w
          rw [pb_step] at kb
          have KB := Lib.hid kb
          have ko := fun w => rmul_any (pe_W4 a e i k) (pb_W4 a i k) w
          have hd : by8 e i / 2 ^ (k + 1) = by8 e i / 2 ^ k / 2 := by rw [Nat.pow_succ, Nat.div_div_eq_div_mul]
          have hdl : by8 e i / 2 ^ k ≤ 255 := Nat.le_trans (Nat.div_le_self _ _) (by have := by8_lt e i; omega)
          have hbit0 := @pe_zero a e i k
          have hbit1 := @pe_one a e i k
          generalize by8 e i / 2 ^ k = d at *
          have HD := Lib.hid hd
          have ht : ((d : Nat) : Int).tdiv 2 = ((d / 2 : Nat) : Int) := by rw [Int.tdiv_eq_ediv_of_nonneg (by omega)]; rfl
          have hw : IntKind.i64.wrap ((d / 2 : Nat) : Int) = ((d / 2 : Nat) : Int) := by rw [IntKind.wrap_i64]; omega
          have hw2 : IntKind.i64.wrap ((d : Int) / 2) = (d : Int) / 2 := by rw [IntKind.wrap_i64]; omega
          by_cases hb : d % 2 = 1
          · have hp := hbit1 hb
            rw [hp] at ko
            have KO := Lib.hid ko
            have gb : (((d : Nat) : Int).tmod 2 == 1) = true := by rw [Int.tmod_eq_emod_of_nonneg (by omega)]; simp; omega
            have gb' : (d : Int) % 2 = 1 := by omega
            clear kb ko hd hdl hbit0 hbit1 hb hp
            go_wp2_with (first | ((with_reducible refine fl_load oo ?_ ?_); rfl) | ((with_reducible refine fl_load oa ?_ ?_); rfl))
            go_at_call 27
            refine (KO.out _).mono ?_
            rintro e' v3 ⟨rfl, h0⟩
            replace oo := oo.keep h0
            replace oa := oa.keep h0
            replace oz := oz.keep h0
            replace hc := hc.trans (h0.mono hc.size)
            clear h0
            have hbl := oo.below (pe a e i (k + 1))
            have oa2 := oa.other hn1 (pe a e i (k + 1))
            have oz2 := oz.other hn2 (pe a e i (k + 1))
            have oo2 := oo.put (pe a e i (k + 1))
            replace hc := hc.trans hbl
            clear hbl
            go_wp2_with (first | ((with_reducible refine fl_store oo (pe a e i (k + 1)) ?_ ?_ ?_); rfl; rfl) | ((with_reducible refine fl_load oa2 ?_ ?_); rfl))
            clear oo oa oz
            go_at_call 27
            refine (KB.out _).mono ?_
            rintro e' v4 ⟨rfl, h0⟩
            replace oo2 := oo2.keep h0
            replace oa2 := oa2.keep h0
            replace oz2 := oz2.keep h0
            replace hc := hc.trans (h0.mono hc.size)
            clear h0
            have hbl := oa2.below (pb a i (k + 1))
            have oo3 := oo2.other (Ne.symm hn1) (pb a i (k + 1))
            have oz3 := oz2.other (g' := w.heap.size) (by omega) (pb a i (k + 1))
            have oa3 := oa2.put (pb a i (k + 1))
            replace hc := hc.trans hbl
            clear hbl
            go_wp2_with ((with_reducible refine fl_store oa2 (pb a i (k + 1)) ?_ ?_ ?_); rfl; rfl)
            go_roundw
            case rel => exact ⟨k + 1, by omega, by go_num, by rw [HD.out]; first | rfl | simp, oo3, oa3, oz3, hc⟩
            case measure => simp [intOf]; omega
          · have hp := hbit0 (by omega)
            have gb : (((d : Nat) : Int).tmod 2 == 1) = false := by rw [Int.tmod_eq_emod_of_nonneg (by omega)]; simp; omega
            have gb' : (d : Int) % 2 = 0 := by omega
            rw [hp] at oo
            clear kb ko hd hdl hbit0 hbit1 hb hp
            go_wp2_with ((with_reducible refine fl_load oa ?_ ?_); rfl)
            go_at_call 27
            refine (KB.out _).mono ?_
            rintro e' v4 ⟨rfl, h0⟩
            replace oo := oo.keep h0
            replace oa := oa.keep h0
            replace oz := oz.keep h0
            replace hc := hc.trans (h0.mono hc.size)
            clear h0
            have hbl := oa.below (pb a i (k + 1))
            have oo3 := oo.other (Ne.symm hn1) (pb a i (k + 1))
            have oz3 := oz.other (g' := w.heap.size) (by omega) (pb a i (k + 1))
            have oa3 := oa.put (pb a i (k + 1))
            replace hc := hc.trans hbl
            clear hbl
            go_wp2_with ((with_reducible refine fl_store oa (pb a i (k + 1)) ?_ ?_ ?_); rfl; rfl)
            go_roundw
            case rel => exact ⟨k + 1, by omega, by go_num, by rw [HD.out]; first | rfl | simp, oo3, oa3, oz3, hc⟩
            case measure => simp [intOf]; omega
        · obtain rfl : k = 8 := by omega
          rw [pe_next] at oo
          rw [pb_next] at oa
          go_wp2_with fail
          go_roundw
          case rel => exact ⟨i + 1, by omega, by go_num, oo, oa, oz, hc⟩
          case measure => simp [intOf]; omega
    · obtain rfl : i = n := by omega
      rw [pe_end h.lt, ← HR.out] at oo
      have hop := Lib.hid (oz.put r)
      have hbz := oz.below r
      go_wp2_with (first | ((with_reducible refine fl_store oz r ?_ ?_ ?_); rfl; rfl) | ((with_reducible refine fl_load oo ?_ ?_); rfl))
      exact bodyPost_ret (fres Tryd.results29 _ hop.out rfl) rfl ⟨rfl, hc.trans hbz⟩
end Go.Proofs.YtifcjfeepgfmfaaDoor
