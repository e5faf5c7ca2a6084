import Derived.Test.YtifcjfeepgfmfaaDoorR1
namespace Go.Proofs.YtifcjfeepgfmfaaDoor
open Go Go.RowKit
theorem p256 (m : Nat) : (256 : Nat) ^ (2 * m) = 65536 ^ m := by rw [Nat.pow_mul]
theorem p256' (m : Nat) : (256 : Nat) ^ (2 * m + 1) = 65536 ^ m * 256 := by rw [Nat.pow_succ, p256]
theorem pr_other {x k j : Nat} (hj : j ≠ k / 2) : d16 (x % 256 ^ (k + 1)) j = d16 (x % 256 ^ k) j := by
  have hy := Nat.mod_lt x (show 0 < 256 ^ k from Nat.pow_pos (by decide))
  have hy' := Nat.mod_lt x (show 0 < 256 ^ (k + 1) from Nat.pow_pos (by decide))
  by_cases h : j < k / 2
  · rw [mod_pow_succ']
    have e : ∃ c, 256 ^ k = 65536 ^ (k / 2) * c := by
      rcases (show k = 2 * (k / 2) ∨ k = 2 * (k / 2) + 1 by omega) with e | e
      · exact ⟨1, by rw [Nat.mul_one, ← p256, ← e]⟩
      · exact ⟨256, by rw [← p256', ← e]⟩
    obtain ⟨c, e⟩ := e
    rw [e, Nat.mul_assoc]
    exact dgt_add_mul _ _ h
  · have hp : (256 : Nat) ^ (k + 1) ≤ 65536 ^ j := by rw [← p256]; exact Nat.pow_le_pow_right (by decide) (by omega)
    have hp' : (256 : Nat) ^ k ≤ 65536 ^ j := by rw [← p256]; exact Nat.pow_le_pow_right (by decide) (by omega)
    unfold d16
    rw [dgt_zero_of_lt (Nat.lt_of_lt_of_le hy' hp), dgt_zero_of_lt (Nat.lt_of_lt_of_le hy hp')]
theorem pr_even {x m : Nat} : d16 (x % 256 ^ (2 * m)) m = 0 ∧ d16 (x % 256 ^ (2 * m + 1)) m = by8 x (2 * m) := by
  have hy := Nat.mod_lt x (show 0 < 65536 ^ m from Nat.pow_pos (by decide))
  have hb := by8_lt x (2 * m)
  refine ⟨?_, ?_⟩
  · rw [p256]; exact dgt_zero_of_lt hy
  · rw [mod_pow_succ', p256]
    show (_ + 65536 ^ m * by8 x (2 * m)) / 65536 ^ m % 65536 = _
    rw [Nat.add_mul_div_left _ _ (Nat.pow_pos (by decide)), Nat.div_eq_of_lt hy, Nat.zero_add, Nat.mod_eq_of_lt (by omega)]
theorem pr_odd {x m : Nat} : d16 (x % 256 ^ (2 * m + 2)) m = d16 (x % 256 ^ (2 * m + 1)) m + 256 * by8 x (2 * m + 1) := by
  have hb := by8_lt x (2 * m + 1)
  have hc := by8_lt x (2 * m)
  rw [pr_even.2]
  have h0 : x % 256 ^ (2 * m + 1) / 65536 ^ m = by8 x (2 * m) := by
    have := (pr_even (x := x) (m := m)).2
    unfold d16 dgt at this
    have hl : x % 256 ^ (2 * m + 1) / 65536 ^ m < 256 := Nat.div_lt_of_lt_mul (by rw [p256']; exact Nat.mod_lt _ (Nat.mul_pos (Nat.pow_pos (by decide)) (by decide)))
    rwa [Nat.mod_eq_of_lt (by omega)] at this
  rw [show 2 * m + 2 = 2 * m + 1 + 1 from rfl, mod_pow_succ', p256', Nat.mul_assoc]
  show (x % (65536 ^ m * 256) + 65536 ^ m * (256 * by8 x (2 * m + 1))) / 65536 ^ m % 65536 = _
  rw [Nat.add_mul_div_left _ _ (Nat.pow_pos (by decide)), ← p256', h0, Nat.mod_eq_of_lt (by omega)]
def pv (x k j : Nat) : Value := .int .i64 (d16 (x % 256 ^ k) j : Int)
theorem pv_set {x k : Nat} {v : Value} (hv : v = pv x (k + 1) (k / 2)) (j : Nat) : (if j = k / 2 then v else pv x k j) = pv x (k + 1) j := by
  by_cases h : j = k / 2
  · rw [if_pos h, hv, h]
  · rw [if_neg h]; unfold pv; rw [pr_other h]
attribute [local irreducible] wd by8 d16 set16w fl
set_option maxRecDepth 20000
set_option maxHeartbeats 1600000 in
theorem pairs_any {A : Option Addr} {B c n x : Nat} (w : World) (h : Dig w B A c n x) (hB : B ≤ w.heap.size) (hn : n ≤ 32) :
    Calls Tryd.prog 40 #[.slice A n c] w fun e w' => e = .returned (fv x) ∧ Below w.heap.size w w' := by
  have s1 : (w.alloc Z16).heap.size = w.heap.size + 1 := by simp
  have oz := (O16.zero (own_Z16 (w := w) (Nat.le_refl _))).alloc Z16
  have oo := own_Z16 (w := w.alloc Z16) (B := w.heap.size) (by omega)
  rw [s1] at oo
  have hc := ((Below.refl w.heap.size w).alloc (Nat.le_refl _) Z16).alloc (by omega) Z16
  have hne : w.heap.size + 1 ≠ w.heap.size := by omega
  clear s1
  go_enter Tryd.func40, Tryd.ntmps40
  go_wp2_with fail
  go_loopw [4] (fun i wr => ∃ k : Nat, k ≤ n ∧ i = .int .i64 k ∧ OwnF wr w.heap.size 26 (some ⟨w.heap.size + 1, 0, none⟩) 16 16 (pv x k) ∧ O16 wr w.heap.size w.heap.size 0 ∧ Below w.heap.size w wr)
    (fun i _ => n - (intOf i).toNat)
  case atStart => exact ⟨0, by omega, rfl, oo.congr (fun j _ => by unfold pv; rw [Nat.pow_zero, Nat.mod_one]; unfold d16; simp [dgt]), oz, hc⟩
  case round =>
    clear oz oo hc
    obtain ⟨k, hk, rfl, oo, oz, hc⟩ := hrel
    by_cases hlt : k < n
    · have g1 : (k : Int) < (n : Int) := by omega
      obtain ⟨b1, o1, rfl, hb1, c1⟩ := (h.keep (hc.mono hB)).rd.at_ hlt
      unfold dg8 at c1
      have c2 := OwnF.cell oo (k := k / 2) (by omega)
      have f2 := OwnF.free oo (k / 2)
      unfold pv at c2
      have g4 : (k : Int) / 2 < 16 := by omega
      have g2 : IntKind.i64.wrap ((k : Int) / 2) = (k : Int) / 2 := by rw [IntKind.wrap_i64]; omega
      have g6 : 0 ≤ (k : Int) / 2 := by omega
      have g7 : ((k : Int) / 2).toNat = k / 2 := by omega
      have hb := by8_lt x k
      obtain ⟨m, hm⟩ : ∃ m, m = k / 2 := ⟨_, rfl⟩
      have g9 := h.rd.cap
      rcases (show k = 2 * m ∨ k = 2 * m + 1 by omega) with e | e
      · have g3 : ((k : Int).tmod 2 == 0) = true := by rw [Int.tmod_eq_emod_of_nonneg (by omega)]; simp; omega
        have g3' : (k : Int) % 2 = 0 := by omega
        have hv : IntKind.i64.wrap ((d16 (x % 256 ^ k) (k / 2) : Int) + (by8 x k : Int)) = (d16 (x % 256 ^ (k + 1)) (k / 2) : Int) := by
          rw [← hm, e, pr_even.1, pr_even.2, IntKind.wrap_i64]; rw [e] at hb; omega
        have HM := Lib.hid hm
        have HE := Lib.hid e
        clear hm e hb
        go_wp2_with fail
        refine wp_region_still_tail 10 (by kernel_rfl) (by kernel_rfl) ?_
        simp only [List.take_succ_cons, List.take_zero, List.drop_succ_cons, List.drop_zero]
        repeat still_step
        refine wpStill_nil ?_
        change wpList _ _ _ _ _ wr.drew
        go_wp2_with fail
        refine ⟨⟨k + 1, by omega, by go_num, ?_, (OwnF.other oz (by simp) _).drew, (hc.setCell (by simp) _).drew⟩, by simp [intOf]; omega⟩
        exact ((OwnF.set_ oo (k / 2) _).congr fun j _ => pv_set rfl j).drew
      · have g3 : ((k : Int).tmod 2 == 0) = false := by rw [Int.tmod_eq_emod_of_nonneg (by omega)]; simp; omega
        have g3' : (k : Int) % 2 = 1 := by omega
        have gw : IntKind.i64.wrap (256 * (by8 x k : Int)) = 256 * (by8 x k : Int) := by rw [IntKind.wrap_i64]; omega
        have hv : IntKind.i64.wrap ((d16 (x % 256 ^ k) (k / 2) : Int) + 256 * (by8 x k : Int)) = (d16 (x % 256 ^ (k + 1)) (k / 2) : Int) := by
          rw [← hm, e, pr_odd, IntKind.wrap_i64]; rw [e] at hb
          have := d16_lt (x % 256 ^ (2 * m + 1)) m
          omega
        have HM := Lib.hid hm
        have HE := Lib.hid e
        clear hm e hb
        go_wp2_with fail
        refine wp_region_still_tail 11 (by kernel_rfl) (by kernel_rfl) ?_
        simp only [List.take_succ_cons, List.take_zero, List.drop_succ_cons, List.drop_zero]
        repeat still_step
        refine wpStill_nil ?_
        change wpList _ _ _ _ _ wr.drew
        go_wp2_with fail
        refine ⟨⟨k + 1, by omega, by go_num, ?_, (OwnF.other oz (by simp) _).drew, (hc.setCell (by simp) _).drew⟩, by simp [intOf]; omega⟩
        exact ((OwnF.set_ oo (k / 2) _).congr fun j _ => pv_set rfl j).drew
    · obtain rfl : k = n := by omega
      have ox : O16 wr w.heap.size (w.heap.size + 1) x := OwnF.congr oo fun j _ => by unfold pv; rw [Nat.mod_eq_of_lt h.lt]; rfl
      have hop := Lib.hid (oz.put x)
      have hbz := oz.below x
      go_wp2_with (first | ((with_reducible refine fl_store oz x ?_ ?_ ?_); rfl; rfl) | ((with_reducible refine fl_load ox ?_ ?_); rfl))
      exact bodyPost_ret (fres Tryd.results40 _ hop.out rfl) rfl ⟨rfl, hc.trans hbz⟩
end Go.Proofs.YtifcjfeepgfmfaaDoor
