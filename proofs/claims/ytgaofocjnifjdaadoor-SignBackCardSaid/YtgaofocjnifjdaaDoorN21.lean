/-
  The code's size, small, rounds, turn, upper and lower, of both words (layer 6). Written by tools/gen_n21.py. By an AI agent.
-/
import Derived.Test.YtgaofocjnifjdaaDoorJ04
import Derived.Test.YtgaofocjnifjdaaDoorJ05
import Derived.Test.YtgaofocjnifjdaaDoorJ03
import Derived.Laws.BitsAllLaws
namespace Go.Proofs.YtgaofocjnifjdaaDoor
open Go Go.RowKit
set_option maxRecDepth 20000
set_option maxHeartbeats 1600000 in
theorem len64_32 (w : World) : Calls Tryd.prog 76 #[.int .u64 4294967295] w fun e w' => e = .returned (.int .i64 32) ∧ w' = w := by
  go_enter Tryd.func76, Tryd.ntmps76
  go_wp2_with fail
  go_ret
  exact ⟨by kernel_rfl, rfl⟩
set_option maxHeartbeats 1600000 in
theorem len64_64 (w : World) : Calls Tryd.prog 76 #[.int .u64 18446744073709551615] w fun e w' => e = .returned (.int .i64 64) ∧ w' = w := by
  go_enter Tryd.func76, Tryd.ntmps76
  go_wp2_with fail
  go_ret
  exact ⟨by kernel_rfl, rfl⟩
theorem size_64 (w : World) : Calls Tryd.prog 66 #[] w fun e w' => e = .returned (.int .i64 8) ∧ w' = w := by
  go_enter Tryd.func66, Tryd.ntmps66
  go_wp2_with fail
  go_at_call 76
  refine (len64_64 _).mono ?_
  rintro e v1 ⟨rfl, rfl⟩
  go_wp2_with fail
  go_ret
  exact ⟨rfl, rfl⟩
theorem size_64b (w : World) : Calls Tryd.prog 66 #[] w fun e w' => e = .returned (.int .i64 8) ∧ Below w.heap.size w w' :=
  (size_64 w).mono fun e w' h => ⟨h.1, by rw [h.2]; exact Below.refl _ _⟩
theorem small_64 (w : World) : Calls Tryd.prog 86 #[] w fun e w' => e = .returned (.bool false) ∧ w' = w := by
  go_enter Tryd.func86, Tryd.ntmps86
  go_wp2_with fail
  go_at_call 66
  refine (size_64 _).mono ?_
  rintro e v1 ⟨rfl, rfl⟩
  go_wp2_with fail
  go_ret
  exact ⟨rfl, rfl⟩
theorem rounds_64 (w : World) : Calls Tryd.prog 79 #[] w fun e w' => e = .returned (.int .i64 80) ∧ w' = w := by
  go_enter Tryd.func79, Tryd.ntmps79
  go_wp2_with fail
  go_at_call 86
  refine (small_64 _).mono ?_
  rintro e v1 ⟨rfl, rfl⟩
  go_wp2_with fail
  go_ret
  exact ⟨rfl, rfl⟩
theorem turn_nums_64 {x n : Nat} (hx : x < 18446744073709551616) (hn : n ≤ 64) : ∃ q r c z : Nat, z = rotN 64 x n ∧ (x : Int) / 2 ^ min n 64 = (q : Int) ∧ IntKind.i64.wrap (64 - (n : Int)) = (c : Int) ∧ IntKind.u64.wrap ((x : Int) * 2 ^ min c 64) = (r : Int) ∧ bits .or .u64 (q : Int) (r : Int) = (z : Int) := by
  refine ⟨x / 2 ^ n, x * 2 ^ (64 - n) % 2 ^ 64, 64 - n, rotN 64 x n, rfl, ?_, ?_, ?_, ?_⟩
  · rw [Nat.min_eq_left hn]; simp
  · rw [IntKind.wrap_i64]; omega
  · rw [Nat.min_eq_left (by omega), IntKind.wrap_u64]
    have : (x : Int) * 2 ^ (64 - n) = ((x * 2 ^ (64 - n) : Nat) : Int) := by simp
    rw [this, show (2 : Nat) ^ 64 = 18446744073709551616 by decide]
    generalize x * 2 ^ (64 - n) = y
    omega
  · rw [rotN_or (b := 64) hx hn]
    exact bits_or_u64_nat _ _ (Nat.lt_of_le_of_lt (Nat.div_le_self _ _) hx) (Nat.mod_lt _ (by decide))
set_option maxHeartbeats 1600000 in
theorem turn_64 {x n : Nat} (hx : x < 18446744073709551616) (hn : n ≤ 64) (w : World) : Calls Tryd.prog 87 #[.int .u64 (x : Int), .int .i64 (n : Int)] w fun e w' => e = .returned (.int .u64 ((rotN 64 x n : Nat) : Int)) ∧ Below w.heap.size w w' := by
  obtain ⟨q, r, c, z, hz, h1, h2, h3, h4⟩ := turn_nums_64 hx hn
  rw [← hz]
  have hn0 : 0 ≤ (n : Int) := by omega
  have H1 := Lib.hid h1
  have H2 := Lib.hid h2
  have H3 := Lib.hid h3
  have H4 := Lib.hid h4
  clear h1 h2 h3 h4 hz hx hn
  go_enter Tryd.func87, Tryd.ntmps87
  go_upto_region 1 with fail
  refine wp_region_inv 10 [5, 6, 7, 8, 9, 10, 11, 12, 13, 14] [.val (.int .u64 (x : Int)), .val (.int .i64 (n : Int)), .val (.int .u64 (q : Int)), .val (.int .u64 (x : Int)), .val (.int .i64 8), .val (.int .i64 64), .val (.int .i64 (n : Int)), .val (.int .i64 (c : Int)), .val (.int .u64 (r : Int)), .val (.int .u64 (z : Int))] (fun wz => Below w.heap.size w wz) (by kernel_rfl) (by kernel_rfl) (fun wz wz' hz hb => hz.trans (hb.mono hz.size)) ((Below.refl _ _).drew) (fun u => by simp only [puts, List.foldl_cons, List.foldl_nil]; go_simp; exact rfl) ?_ ?_
  · simp only [List.take_succ_cons, List.take_zero]
    refine Obs.cons (fun u w hS hd => ?_) ?_
    · exact Gv.run (.int .u64 (x : Int)) rfl (by go_simp) rfl
    refine Obs.cons (fun u w hS hd => ?_) ?_
    · exact Gv.run (.int .i64 (n : Int)) rfl (by go_simp) rfl
    refine Obs.cons (fun u w hS hd => ?_) ?_
    · have d5 : u 5 = .int .u64 (x : Int) := dep hd 0 rfl
      have d6 : u 6 = .int .i64 (n : Int) := dep hd 1 rfl
      rw [d5, d6]
      have hq := H1.out
      exact Gv.run (.int .u64 (q : Int)) rfl (by go_simp) rfl
    refine Obs.cons (fun u w hS hd => ?_) ?_
    · exact Gv.run (.int .u64 (x : Int)) rfl (by go_simp) rfl
    refine Obs.cons (fun u w hS hd => ?_) ?_
    · refine Gv.call 66 #[] rfl (by go_simp) ((size_64b w).mono ?_)
      rintro e w' ⟨rfl, hb⟩
      exact ⟨_, rfl, rfl, hb⟩
    refine Obs.cons (fun u w hS hd => ?_) ?_
    · have d9 : u 9 = .int .i64 8 := dep hd 4 rfl
      rw [d9]
      have hq : IntKind.i64.wrap 64 = 64 := rfl
      exact Gv.run (.int .i64 64) rfl (by go_simp) rfl
    refine Obs.cons (fun u w hS hd => ?_) ?_
    · exact Gv.run (.int .i64 (n : Int)) rfl (by go_simp) rfl
    refine Obs.cons (fun u w hS hd => ?_) ?_
    · have d10 : u 10 = .int .i64 64 := dep hd 5 rfl
      have d11 : u 11 = .int .i64 (n : Int) := dep hd 6 rfl
      rw [d10, d11]
      have hq := H2.out
      exact Gv.run (.int .i64 (c : Int)) rfl (by go_simp) rfl
    refine Obs.cons (fun u w hS hd => ?_) ?_
    · have d8 : u 8 = .int .u64 (x : Int) := dep hd 3 rfl
      have d12 : u 12 = .int .i64 (c : Int) := dep hd 7 rfl
      rw [d8, d12]
      have hq := H3.out
      exact Gv.run (.int .u64 (r : Int)) rfl (by go_simp) rfl
    refine Obs.cons (fun u w hS hd => ?_) ?_
    · have d7 : u 7 = .int .u64 (q : Int) := dep hd 2 rfl
      have d13 : u 13 = .int .u64 (r : Int) := dep hd 8 rfl
      rw [d7, d13]
      have hq := H4.out
      exact Gv.run (.int .u64 (z : Int)) rfl (by go_simp) rfl
    exact Obs.nil
  intro u wz hS hd
  have d14 : u 14 = .int .u64 (z : Int) := hd 9 (by decide)
  rw [d14]
  simp only [List.drop_succ_cons, List.drop_zero]
  go_wp2_with fail
  go_ret
  exact ⟨rfl, hS⟩
set_option maxHeartbeats 1600000 in
theorem upper0_64 {x : Nat} (hx : x < 18446744073709551616) (w : World) : Calls Tryd.prog 82 #[.int .u64 (x : Int)] w fun e w' => e = .returned (.int .u64 ((turnedN 64 x (28, 34, 39) : Nat) : Int)) ∧ Below w.heap.size w w' := by
  have ka : ∀ w, Calls Tryd.prog 87 #[.int .u64 (x : Int), .int .i64 28] w fun e w' => e = .returned (.int .u64 ((rotN 64 x 28 : Nat) : Int)) ∧ Below w.heap.size w w' := fun w => turn_64 (n := 28) hx (by decide) w
  have kb : ∀ w, Calls Tryd.prog 87 #[.int .u64 (x : Int), .int .i64 34] w fun e w' => e = .returned (.int .u64 ((rotN 64 x 34 : Nat) : Int)) ∧ Below w.heap.size w w' := fun w => turn_64 (n := 34) hx (by decide) w
  have kc : ∀ w, Calls Tryd.prog 87 #[.int .u64 (x : Int), .int .i64 39] w fun e w' => e = .returned (.int .u64 ((rotN 64 x 39 : Nat) : Int)) ∧ Below w.heap.size w w' := fun w => turn_64 (n := 39) hx (by decide) w
  have la : rotN 64 x 28 < 18446744073709551616 := rotN_lt (b := 64) (by decide) hx 28
  have lb : rotN 64 x 34 < 18446744073709551616 := rotN_lt (b := 64) (by decide) hx 34
  have lc : rotN 64 x 39 < 18446744073709551616 := rotN_lt (b := 64) (by decide) hx 39
  have hz : turnedN 64 x (28, 34, 39) = (rotN 64 x 28 ^^^ rotN 64 x 34) ^^^ rotN 64 x 39 := rfl
  rw [hz]
  generalize rotN 64 x 28 = a at *
  generalize rotN 64 x 34 = b at *
  generalize rotN 64 x 39 = c at *
  have E1 := bits_xor_u64_nat a b la lb
  have E2 := bits_xor_u64_nat (a ^^^ b) c (Nat.xor_lt_two_pow (n := 64) la lb) lc
  generalize a ^^^ b = d at *
  generalize d ^^^ c = z at *
  have KA := Lib.hid ka
  have KB := Lib.hid kb
  have KC := Lib.hid kc
  clear ka kb kc la lb lc hz hx
  go_enter Tryd.func82, Tryd.ntmps82
  go_wp2_with fail
  go_at_call 86
  refine (small_64 _).mono ?_
  rintro e v1 ⟨rfl, rfl⟩
  go_wp2_with fail
  go_at_call 87
  refine (KA.out _).mono ?_
  rintro e v2 ⟨rfl, hc⟩
  go_wp2_with fail
  go_at_call 87
  refine (KB.out _).mono ?_
  rintro e v3 ⟨rfl, hb⟩
  replace hc := hc.trans (hb.mono hc.size)
  clear hb
  go_wp2_with fail
  go_at_call 87
  refine (KC.out _).mono ?_
  rintro e v4 ⟨rfl, hb⟩
  replace hc := hc.trans (hb.mono hc.size)
  clear hb
  go_wp2_with fail
  go_ret
  exact ⟨rfl, hc⟩
set_option maxHeartbeats 1600000 in
theorem upper1_64 {x : Nat} (hx : x < 18446744073709551616) (w : World) : Calls Tryd.prog 80 #[.int .u64 (x : Int)] w fun e w' => e = .returned (.int .u64 ((turnedN 64 x (14, 18, 41) : Nat) : Int)) ∧ Below w.heap.size w w' := by
  have ka : ∀ w, Calls Tryd.prog 87 #[.int .u64 (x : Int), .int .i64 14] w fun e w' => e = .returned (.int .u64 ((rotN 64 x 14 : Nat) : Int)) ∧ Below w.heap.size w w' := fun w => turn_64 (n := 14) hx (by decide) w
  have kb : ∀ w, Calls Tryd.prog 87 #[.int .u64 (x : Int), .int .i64 18] w fun e w' => e = .returned (.int .u64 ((rotN 64 x 18 : Nat) : Int)) ∧ Below w.heap.size w w' := fun w => turn_64 (n := 18) hx (by decide) w
  have kc : ∀ w, Calls Tryd.prog 87 #[.int .u64 (x : Int), .int .i64 41] w fun e w' => e = .returned (.int .u64 ((rotN 64 x 41 : Nat) : Int)) ∧ Below w.heap.size w w' := fun w => turn_64 (n := 41) hx (by decide) w
  have la : rotN 64 x 14 < 18446744073709551616 := rotN_lt (b := 64) (by decide) hx 14
  have lb : rotN 64 x 18 < 18446744073709551616 := rotN_lt (b := 64) (by decide) hx 18
  have lc : rotN 64 x 41 < 18446744073709551616 := rotN_lt (b := 64) (by decide) hx 41
  have hz : turnedN 64 x (14, 18, 41) = (rotN 64 x 14 ^^^ rotN 64 x 18) ^^^ rotN 64 x 41 := rfl
  rw [hz]
  generalize rotN 64 x 14 = a at *
  generalize rotN 64 x 18 = b at *
  generalize rotN 64 x 41 = c at *
  have E1 := bits_xor_u64_nat a b la lb
  have E2 := bits_xor_u64_nat (a ^^^ b) c (Nat.xor_lt_two_pow (n := 64) la lb) lc
  generalize a ^^^ b = d at *
  generalize d ^^^ c = z at *
  have KA := Lib.hid ka
  have KB := Lib.hid kb
  have KC := Lib.hid kc
  clear ka kb kc la lb lc hz hx
  go_enter Tryd.func80, Tryd.ntmps80
  go_wp2_with fail
  go_at_call 86
  refine (small_64 _).mono ?_
  rintro e v1 ⟨rfl, rfl⟩
  go_wp2_with fail
  go_at_call 87
  refine (KA.out _).mono ?_
  rintro e v2 ⟨rfl, hc⟩
  go_wp2_with fail
  go_at_call 87
  refine (KB.out _).mono ?_
  rintro e v3 ⟨rfl, hb⟩
  replace hc := hc.trans (hb.mono hc.size)
  clear hb
  go_wp2_with fail
  go_at_call 87
  refine (KC.out _).mono ?_
  rintro e v4 ⟨rfl, hb⟩
  replace hc := hc.trans (hb.mono hc.size)
  clear hb
  go_wp2_with fail
  go_ret
  exact ⟨rfl, hc⟩
set_option maxHeartbeats 1600000 in
theorem lower0_64 {x : Nat} (hx : x < 18446744073709551616) (w : World) : Calls Tryd.prog 85 #[.int .u64 (x : Int)] w fun e w' => e = .returned (.int .u64 ((shiftedN 64 x (1, 8, 7) : Nat) : Int)) ∧ Below w.heap.size w w' := by
  have ka : ∀ w, Calls Tryd.prog 87 #[.int .u64 (x : Int), .int .i64 1] w fun e w' => e = .returned (.int .u64 ((rotN 64 x 1 : Nat) : Int)) ∧ Below w.heap.size w w' := fun w => turn_64 (n := 1) hx (by decide) w
  have kb : ∀ w, Calls Tryd.prog 87 #[.int .u64 (x : Int), .int .i64 8] w fun e w' => e = .returned (.int .u64 ((rotN 64 x 8 : Nat) : Int)) ∧ Below w.heap.size w w' := fun w => turn_64 (n := 8) hx (by decide) w
  have la : rotN 64 x 1 < 18446744073709551616 := rotN_lt (b := 64) (by decide) hx 1
  have lb : rotN 64 x 8 < 18446744073709551616 := rotN_lt (b := 64) (by decide) hx 8
  have lc : sh2 x 7 < 18446744073709551616 := Nat.lt_of_le_of_lt (sh2_le _ _) hx
  have hsc : sh2 x 7 = x / 128 := rfl
  have hz : shiftedN 64 x (1, 8, 7) = (rotN 64 x 1 ^^^ rotN 64 x 8) ^^^ sh2 x 7 := rfl
  rw [hz]
  generalize rotN 64 x 1 = a at *
  generalize rotN 64 x 8 = b at *
  generalize sh2 x 7 = c at *
  have E1 := bits_xor_u64_nat a b la lb
  have E2 := bits_xor_u64_nat (a ^^^ b) c (Nat.xor_lt_two_pow (n := 64) la lb) lc
  generalize a ^^^ b = d at *
  generalize d ^^^ c = z at *
  have hs : (x : Int) / 128 = (c : Int) := by omega
  clear hsc
  have KA := Lib.hid ka
  have KB := Lib.hid kb
  clear ka kb la lb lc hz hx
  go_enter Tryd.func85, Tryd.ntmps85
  go_wp2_with fail
  go_at_call 86
  refine (small_64 _).mono ?_
  rintro e v1 ⟨rfl, rfl⟩
  go_wp2_with fail
  go_at_call 87
  refine (KA.out _).mono ?_
  rintro e v2 ⟨rfl, hc⟩
  go_wp2_with fail
  go_at_call 87
  refine (KB.out _).mono ?_
  rintro e v3 ⟨rfl, hb⟩
  replace hc := hc.trans (hb.mono hc.size)
  clear hb
  go_wp2_with fail
  go_ret
  exact ⟨rfl, hc⟩
set_option maxHeartbeats 1600000 in
theorem lower1_64 {x : Nat} (hx : x < 18446744073709551616) (w : World) : Calls Tryd.prog 84 #[.int .u64 (x : Int)] w fun e w' => e = .returned (.int .u64 ((shiftedN 64 x (19, 61, 6) : Nat) : Int)) ∧ Below w.heap.size w w' := by
  have ka : ∀ w, Calls Tryd.prog 87 #[.int .u64 (x : Int), .int .i64 19] w fun e w' => e = .returned (.int .u64 ((rotN 64 x 19 : Nat) : Int)) ∧ Below w.heap.size w w' := fun w => turn_64 (n := 19) hx (by decide) w
  have kb : ∀ w, Calls Tryd.prog 87 #[.int .u64 (x : Int), .int .i64 61] w fun e w' => e = .returned (.int .u64 ((rotN 64 x 61 : Nat) : Int)) ∧ Below w.heap.size w w' := fun w => turn_64 (n := 61) hx (by decide) w
  have la : rotN 64 x 19 < 18446744073709551616 := rotN_lt (b := 64) (by decide) hx 19
  have lb : rotN 64 x 61 < 18446744073709551616 := rotN_lt (b := 64) (by decide) hx 61
  have lc : sh2 x 6 < 18446744073709551616 := Nat.lt_of_le_of_lt (sh2_le _ _) hx
  have hsc : sh2 x 6 = x / 64 := rfl
  have hz : shiftedN 64 x (19, 61, 6) = (rotN 64 x 19 ^^^ rotN 64 x 61) ^^^ sh2 x 6 := rfl
  rw [hz]
  generalize rotN 64 x 19 = a at *
  generalize rotN 64 x 61 = b at *
  generalize sh2 x 6 = c at *
  have E1 := bits_xor_u64_nat a b la lb
  have E2 := bits_xor_u64_nat (a ^^^ b) c (Nat.xor_lt_two_pow (n := 64) la lb) lc
  generalize a ^^^ b = d at *
  generalize d ^^^ c = z at *
  have hs : (x : Int) / 64 = (c : Int) := by omega
  clear hsc
  have KA := Lib.hid ka
  have KB := Lib.hid kb
  clear ka kb la lb lc hz hx
  go_enter Tryd.func84, Tryd.ntmps84
  go_wp2_with fail
  go_at_call 86
  refine (small_64 _).mono ?_
  rintro e v1 ⟨rfl, rfl⟩
  go_wp2_with fail
  go_at_call 87
  refine (KA.out _).mono ?_
  rintro e v2 ⟨rfl, hc⟩
  go_wp2_with fail
  go_at_call 87
  refine (KB.out _).mono ?_
  rintro e v3 ⟨rfl, hb⟩
  replace hc := hc.trans (hb.mono hc.size)
  clear hb
  go_wp2_with fail
  go_ret
  exact ⟨rfl, hc⟩
end Go.Proofs.YtgaofocjnifjdaaDoor
