/-
  The code's size, small, rounds, turn, upper and lower, of both words (layer 6). Written by tools/gen_n21.py. By an AI agent. The code's tables, number, get, put, of both words (layer 6). Written by tools/gen_n22.py. By an AI agent.
-/
import Derived.Test.YtkbkalhcdbklkaaGreatDoorJ06
import Derived.Test.YtkbkalhcdbklkaaGreatDoorJ04
import Derived.Test.YtkbkalhcdbklkaaGreatDoorJ02
import Derived.Laws.BitsAllLaws
import Derived.Test.YtkbkalhcdbklkaaGreatDoorJ06
import Derived.Test.YtkbkalhcdbklkaaGreatDoorJ06
import Derived.Test.YtkbkalhcdbklkaaGreatDoorJ02
namespace Go.Proofs.YtkbkalhcdbklkaaGreatDoor
open Go Go.RowKit
set_option maxRecDepth 20000
set_option maxHeartbeats 1600000 in
theorem len64_32 (w : World) : Calls Tryz.prog 139 #[.int .u64 4294967295] w fun e w' => e = .returned (.int .i64 32) ∧ w' = w := by
  go_enter Tryz.func139, Tryz.ntmps139
  go_wp2_with fail
  go_ret
  exact ⟨by kernel_rfl, rfl⟩
set_option maxHeartbeats 1600000 in
theorem len64_64 (w : World) : Calls Tryz.prog 139 #[.int .u64 18446744073709551615] w fun e w' => e = .returned (.int .i64 64) ∧ w' = w := by
  go_enter Tryz.func139, Tryz.ntmps139
  go_wp2_with fail
  go_ret
  exact ⟨by kernel_rfl, rfl⟩
theorem size_64 (w : World) : Calls Tryz.prog 121 #[] w fun e w' => e = .returned (.int .i64 8) ∧ w' = w := by
  go_enter Tryz.func121, Tryz.ntmps121
  go_wp2_with fail
  go_at_call 139
  refine (len64_64 _).mono ?_
  rintro e v1 ⟨rfl, rfl⟩
  go_wp2_with fail
  go_ret
  exact ⟨rfl, rfl⟩
theorem size_64b (w : World) : Calls Tryz.prog 121 #[] w fun e w' => e = .returned (.int .i64 8) ∧ Below w.heap.size w w' :=
  (size_64 w).mono fun e w' h => ⟨h.1, by rw [h.2]; exact Below.refl _ _⟩
theorem small_64 (w : World) : Calls Tryz.prog 158 #[] w fun e w' => e = .returned (.bool false) ∧ w' = w := by
  go_enter Tryz.func158, Tryz.ntmps158
  go_wp2_with fail
  go_at_call 121
  refine (size_64 _).mono ?_
  rintro e v1 ⟨rfl, rfl⟩
  go_wp2_with fail
  go_ret
  exact ⟨rfl, rfl⟩
theorem rounds_64 (w : World) : Calls Tryz.prog 147 #[] w fun e w' => e = .returned (.int .i64 80) ∧ w' = w := by
  go_enter Tryz.func147, Tryz.ntmps147
  go_wp2_with fail
  go_at_call 158
  refine (small_64 _).mono ?_
  rintro e v1 ⟨rfl, rfl⟩
  go_wp2_with fail
  go_ret
  exact ⟨rfl, rfl⟩
theorem turn_nums_64 {x n : Nat} (hx : x < 18446744073709551616) (hn : n ≤ 64) : ∃ q r c z : Nat, z = rotN 64 x n ∧ (x : Int) / 2 ^ min n 64 = (q : Int) ∧ IntKind.i64.wrap (64 - (n : Int)) = (c : Int) ∧ IntKind.u64.wrap ((x : Int) * 2 ^ min c 64) = (r : Int) ∧ bits .or .u64 (q : Int) (r : Int) = (z : Int) := by
  refine ⟨x / 2 ^ n, x * 2 ^ (64 - n) % 2 ^ 64, 64 - n, rotN 64 x n, rfl, ?_, ?_, ?_, ?_⟩
  · rw [Nat.min_eq_left hn]; simp
  · rw [IntKind.wrap_i64]; omega
  · rw [Nat.min_eq_left (by omega), IntKind.wrap_u64]
    have : (x : Int) * 2 ^ (64 - n) = ((x * 2 ^ (64 - n) : Nat) : Int) := by simp
    rw [this, show (2 : Nat) ^ 64 = 18446744073709551616 by decide]
    generalize x * 2 ^ (64 - n) = y
    omega
  · rw [rotN_or (b := 64) hx hn]
    exact bits_or_u64_nat _ _ (Nat.lt_of_le_of_lt (Nat.div_le_self _ _) hx) (Nat.mod_lt _ (by decide))
set_option maxHeartbeats 1600000 in
theorem turn_64 {x n : Nat} (hx : x < 18446744073709551616) (hn : n ≤ 64) (w : World) : Calls Tryz.prog 159 #[.int .u64 (x : Int), .int .i64 (n : Int)] w fun e w' => e = .returned (.int .u64 ((rotN 64 x n : Nat) : Int)) ∧ Below w.heap.size w w' := by
  obtain ⟨q, r, c, z, hz, h1, h2, h3, h4⟩ := turn_nums_64 hx hn
  rw [← hz]
  have hn0 : 0 ≤ (n : Int) := by omega
  have H1 := Lib.hid h1
  have H2 := Lib.hid h2
  have H3 := Lib.hid h3
  have H4 := Lib.hid h4
  clear h1 h2 h3 h4 hz hx hn
  go_enter Tryz.func159, Tryz.ntmps159
  go_upto_region 1 with fail
  refine wp_region_inv 10 [5, 6, 7, 8, 9, 10, 11, 12, 13, 14] [.val (.int .u64 (x : Int)), .val (.int .i64 (n : Int)), .val (.int .u64 (q : Int)), .val (.int .u64 (x : Int)), .val (.int .i64 8), .val (.int .i64 64), .val (.int .i64 (n : Int)), .val (.int .i64 (c : Int)), .val (.int .u64 (r : Int)), .val (.int .u64 (z : Int))] (fun wz => Below w.heap.size w wz) (by kernel_rfl) (by kernel_rfl) (fun wz wz' hz hb => hz.trans (hb.mono hz.size)) ((Below.refl _ _).drew) (fun u => by simp only [puts, List.foldl_cons, List.foldl_nil]; go_simp; exact rfl) ?_ ?_
  · simp only [List.take_succ_cons, List.take_zero]
    refine Obs.cons (fun u w hS hd => ?_) ?_
    · exact Gv.run (.int .u64 (x : Int)) rfl (by go_simp) rfl
    refine Obs.cons (fun u w hS hd => ?_) ?_
    · exact Gv.run (.int .i64 (n : Int)) rfl (by go_simp) rfl
    refine Obs.cons (fun u w hS hd => ?_) ?_
    · have d5 : u 5 = .int .u64 (x : Int) := dep hd 0 rfl
      have d6 : u 6 = .int .i64 (n : Int) := dep hd 1 rfl
      rw [d5, d6]
      have hq := H1.out
      exact Gv.run (.int .u64 (q : Int)) rfl (by go_simp) rfl
    refine Obs.cons (fun u w hS hd => ?_) ?_
    · exact Gv.run (.int .u64 (x : Int)) rfl (by go_simp) rfl
    refine Obs.cons (fun u w hS hd => ?_) ?_
    · refine Gv.call 121 #[] rfl (by go_simp) ((size_64b w).mono ?_)
      rintro e w' ⟨rfl, hb⟩
      exact ⟨_, rfl, rfl, hb⟩
    refine Obs.cons (fun u w hS hd => ?_) ?_
    · have d9 : u 9 = .int .i64 8 := dep hd 4 rfl
      rw [d9]
      have hq : IntKind.i64.wrap 64 = 64 := rfl
      exact Gv.run (.int .i64 64) rfl (by go_simp) rfl
    refine Obs.cons (fun u w hS hd => ?_) ?_
    · exact Gv.run (.int .i64 (n : Int)) rfl (by go_simp) rfl
    refine Obs.cons (fun u w hS hd => ?_) ?_
    · have d10 : u 10 = .int .i64 64 := dep hd 5 rfl
      have d11 : u 11 = .int .i64 (n : Int) := dep hd 6 rfl
      rw [d10, d11]
      have hq := H2.out
      exact Gv.run (.int .i64 (c : Int)) rfl (by go_simp) rfl
    refine Obs.cons (fun u w hS hd => ?_) ?_
    · have d8 : u 8 = .int .u64 (x : Int) := dep hd 3 rfl
      have d12 : u 12 = .int .i64 (c : Int) := dep hd 7 rfl
      rw [d8, d12]
      have hq := H3.out
      exact Gv.run (.int .u64 (r : Int)) rfl (by go_simp) rfl
    refine Obs.cons (fun u w hS hd => ?_) ?_
    · have d7 : u 7 = .int .u64 (q : Int) := dep hd 2 rfl
      have d13 : u 13 = .int .u64 (r : Int) := dep hd 8 rfl
      rw [d7, d13]
      have hq := H4.out
      exact Gv.run (.int .u64 (z : Int)) rfl (by go_simp) rfl
    exact Obs.nil
  intro u wz hS hd
  have d14 : u 14 = .int .u64 (z : Int) := hd 9 (by decide)
  rw [d14]
  simp only [List.drop_succ_cons, List.drop_zero]
  go_wp2_with fail
  go_ret
  exact ⟨rfl, hS⟩
set_option maxHeartbeats 1600000 in
theorem upper0_64 {x : Nat} (hx : x < 18446744073709551616) (w : World) : Calls Tryz.prog 150 #[.int .u64 (x : Int)] w fun e w' => e = .returned (.int .u64 ((turnedN 64 x (28, 34, 39) : Nat) : Int)) ∧ Below w.heap.size w w' := by
  have ka : ∀ w, Calls Tryz.prog 159 #[.int .u64 (x : Int), .int .i64 28] w fun e w' => e = .returned (.int .u64 ((rotN 64 x 28 : Nat) : Int)) ∧ Below w.heap.size w w' := fun w => turn_64 (n := 28) hx (by decide) w
  have kb : ∀ w, Calls Tryz.prog 159 #[.int .u64 (x : Int), .int .i64 34] w fun e w' => e = .returned (.int .u64 ((rotN 64 x 34 : Nat) : Int)) ∧ Below w.heap.size w w' := fun w => turn_64 (n := 34) hx (by decide) w
  have kc : ∀ w, Calls Tryz.prog 159 #[.int .u64 (x : Int), .int .i64 39] w fun e w' => e = .returned (.int .u64 ((rotN 64 x 39 : Nat) : Int)) ∧ Below w.heap.size w w' := fun w => turn_64 (n := 39) hx (by decide) w
  have la : rotN 64 x 28 < 18446744073709551616 := rotN_lt (b := 64) (by decide) hx 28
  have lb : rotN 64 x 34 < 18446744073709551616 := rotN_lt (b := 64) (by decide) hx 34
  have lc : rotN 64 x 39 < 18446744073709551616 := rotN_lt (b := 64) (by decide) hx 39
  have hz : turnedN 64 x (28, 34, 39) = (rotN 64 x 28 ^^^ rotN 64 x 34) ^^^ rotN 64 x 39 := rfl
  rw [hz]
  generalize rotN 64 x 28 = a at *
  generalize rotN 64 x 34 = b at *
  generalize rotN 64 x 39 = c at *
  have E1 := bits_xor_u64_nat a b la lb
  have E2 := bits_xor_u64_nat (a ^^^ b) c (Nat.xor_lt_two_pow (n := 64) la lb) lc
  generalize a ^^^ b = d at *
  generalize d ^^^ c = z at *
  have KA := Lib.hid ka
  have KB := Lib.hid kb
  have KC := Lib.hid kc
  clear ka kb kc la lb lc hz hx
  go_enter Tryz.func150, Tryz.ntmps150
  go_wp2_with fail
  go_at_call 158
  refine (small_64 _).mono ?_
  rintro e v1 ⟨rfl, rfl⟩
  go_wp2_with fail
  go_at_call 159
  refine (KA.out _).mono ?_
  rintro e v2 ⟨rfl, hc⟩
  go_wp2_with fail
  go_at_call 159
  refine (KB.out _).mono ?_
  rintro e v3 ⟨rfl, hb⟩
  replace hc := hc.trans (hb.mono hc.size)
  clear hb
  go_wp2_with fail
  go_at_call 159
  refine (KC.out _).mono ?_
  rintro e v4 ⟨rfl, hb⟩
  replace hc := hc.trans (hb.mono hc.size)
  clear hb
  go_wp2_with fail
  go_ret
  exact ⟨rfl, hc⟩
set_option maxHeartbeats 1600000 in
theorem upper1_64 {x : Nat} (hx : x < 18446744073709551616) (w : World) : Calls Tryz.prog 148 #[.int .u64 (x : Int)] w fun e w' => e = .returned (.int .u64 ((turnedN 64 x (14, 18, 41) : Nat) : Int)) ∧ Below w.heap.size w w' := by
  have ka : ∀ w, Calls Tryz.prog 159 #[.int .u64 (x : Int), .int .i64 14] w fun e w' => e = .returned (.int .u64 ((rotN 64 x 14 : Nat) : Int)) ∧ Below w.heap.size w w' := fun w => turn_64 (n := 14) hx (by decide) w
  have kb : ∀ w, Calls Tryz.prog 159 #[.int .u64 (x : Int), .int .i64 18] w fun e w' => e = .returned (.int .u64 ((rotN 64 x 18 : Nat) : Int)) ∧ Below w.heap.size w w' := fun w => turn_64 (n := 18) hx (by decide) w
  have kc : ∀ w, Calls Tryz.prog 159 #[.int .u64 (x : Int), .int .i64 41] w fun e w' => e = .returned (.int .u64 ((rotN 64 x 41 : Nat) : Int)) ∧ Below w.heap.size w w' := fun w => turn_64 (n := 41) hx (by decide) w
  have la : rotN 64 x 14 < 18446744073709551616 := rotN_lt (b := 64) (by decide) hx 14
  have lb : rotN 64 x 18 < 18446744073709551616 := rotN_lt (b := 64) (by decide) hx 18
  have lc : rotN 64 x 41 < 18446744073709551616 := rotN_lt (b := 64) (by decide) hx 41
  have hz : turnedN 64 x (14, 18, 41) = (rotN 64 x 14 ^^^ rotN 64 x 18) ^^^ rotN 64 x 41 := rfl
  rw [hz]
  generalize rotN 64 x 14 = a at *
  generalize rotN 64 x 18 = b at *
  generalize rotN 64 x 41 = c at *
  have E1 := bits_xor_u64_nat a b la lb
  have E2 := bits_xor_u64_nat (a ^^^ b) c (Nat.xor_lt_two_pow (n := 64) la lb) lc
  generalize a ^^^ b = d at *
  generalize d ^^^ c = z at *
  have KA := Lib.hid ka
  have KB := Lib.hid kb
  have KC := Lib.hid kc
  clear ka kb kc la lb lc hz hx
  go_enter Tryz.func148, Tryz.ntmps148
  go_wp2_with fail
  go_at_call 158
  refine (small_64 _).mono ?_
  rintro e v1 ⟨rfl, rfl⟩
  go_wp2_with fail
  go_at_call 159
  refine (KA.out _).mono ?_
  rintro e v2 ⟨rfl, hc⟩
  go_wp2_with fail
  go_at_call 159
  refine (KB.out _).mono ?_
  rintro e v3 ⟨rfl, hb⟩
  replace hc := hc.trans (hb.mono hc.size)
  clear hb
  go_wp2_with fail
  go_at_call 159
  refine (KC.out _).mono ?_
  rintro e v4 ⟨rfl, hb⟩
  replace hc := hc.trans (hb.mono hc.size)
  clear hb
  go_wp2_with fail
  go_ret
  exact ⟨rfl, hc⟩
set_option maxHeartbeats 1600000 in
theorem lower0_64 {x : Nat} (hx : x < 18446744073709551616) (w : World) : Calls Tryz.prog 157 #[.int .u64 (x : Int)] w fun e w' => e = .returned (.int .u64 ((shiftedN 64 x (1, 8, 7) : Nat) : Int)) ∧ Below w.heap.size w w' := by
  have ka : ∀ w, Calls Tryz.prog 159 #[.int .u64 (x : Int), .int .i64 1] w fun e w' => e = .returned (.int .u64 ((rotN 64 x 1 : Nat) : Int)) ∧ Below w.heap.size w w' := fun w => turn_64 (n := 1) hx (by decide) w
  have kb : ∀ w, Calls Tryz.prog 159 #[.int .u64 (x : Int), .int .i64 8] w fun e w' => e = .returned (.int .u64 ((rotN 64 x 8 : Nat) : Int)) ∧ Below w.heap.size w w' := fun w => turn_64 (n := 8) hx (by decide) w
  have la : rotN 64 x 1 < 18446744073709551616 := rotN_lt (b := 64) (by decide) hx 1
  have lb : rotN 64 x 8 < 18446744073709551616 := rotN_lt (b := 64) (by decide) hx 8
  have lc : sh2 x 7 < 18446744073709551616 := Nat.lt_of_le_of_lt (sh2_le _ _) hx
  have hsc : sh2 x 7 = x / 128 := rfl
  have hz : shiftedN 64 x (1, 8, 7) = (rotN 64 x 1 ^^^ rotN 64 x 8) ^^^ sh2 x 7 := rfl
  rw [hz]
  generalize rotN 64 x 1 = a at *
  generalize rotN 64 x 8 = b at *
  generalize sh2 x 7 = c at *
  have E1 := bits_xor_u64_nat a b la lb
  have E2 := bits_xor_u64_nat (a ^^^ b) c (Nat.xor_lt_two_pow (n := 64) la lb) lc
  generalize a ^^^ b = d at *
  generalize d ^^^ c = z at *
  have hs : (x : Int) / 128 = (c : Int) := by omega
  clear hsc
  have KA := Lib.hid ka
  have KB := Lib.hid kb
  clear ka kb la lb lc hz hx
  go_enter Tryz.func157, Tryz.ntmps157
  go_wp2_with fail
  go_at_call 158
  refine (small_64 _).mono ?_
  rintro e v1 ⟨rfl, rfl⟩
  go_wp2_with fail
  go_at_call 159
  refine (KA.out _).mono ?_
  rintro e v2 ⟨rfl, hc⟩
  go_wp2_with fail
  go_at_call 159
  refine (KB.out _).mono ?_
  rintro e v3 ⟨rfl, hb⟩
  replace hc := hc.trans (hb.mono hc.size)
  clear hb
  go_wp2_with fail
  go_ret
  exact ⟨rfl, hc⟩
set_option maxHeartbeats 1600000 in
theorem lower1_64 {x : Nat} (hx : x < 18446744073709551616) (w : World) : Calls Tryz.prog 156 #[.int .u64 (x : Int)] w fun e w' => e = .returned (.int .u64 ((shiftedN 64 x (19, 61, 6) : Nat) : Int)) ∧ Below w.heap.size w w' := by
  have ka : ∀ w, Calls Tryz.prog 159 #[.int .u64 (x : Int), .int .i64 19] w fun e w' => e = .returned (.int .u64 ((rotN 64 x 19 : Nat) : Int)) ∧ Below w.heap.size w w' := fun w => turn_64 (n := 19) hx (by decide) w
  have kb : ∀ w, Calls Tryz.prog 159 #[.int .u64 (x : Int), .int .i64 61] w fun e w' => e = .returned (.int .u64 ((rotN 64 x 61 : Nat) : Int)) ∧ Below w.heap.size w w' := fun w => turn_64 (n := 61) hx (by decide) w
  have la : rotN 64 x 19 < 18446744073709551616 := rotN_lt (b := 64) (by decide) hx 19
  have lb : rotN 64 x 61 < 18446744073709551616 := rotN_lt (b := 64) (by decide) hx 61
  have lc : sh2 x 6 < 18446744073709551616 := Nat.lt_of_le_of_lt (sh2_le _ _) hx
  have hsc : sh2 x 6 = x / 64 := rfl
  have hz : shiftedN 64 x (19, 61, 6) = (rotN 64 x 19 ^^^ rotN 64 x 61) ^^^ sh2 x 6 := rfl
  rw [hz]
  generalize rotN 64 x 19 = a at *
  generalize rotN 64 x 61 = b at *
  generalize sh2 x 6 = c at *
  have E1 := bits_xor_u64_nat a b la lb
  have E2 := bits_xor_u64_nat (a ^^^ b) c (Nat.xor_lt_two_pow (n := 64) la lb) lc
  generalize a ^^^ b = d at *
  generalize d ^^^ c = z at *
  have hs : (x : Int) / 64 = (c : Int) := by omega
  clear hsc
  have KA := Lib.hid ka
  have KB := Lib.hid kb
  clear ka kb la lb lc hz hx
  go_enter Tryz.func156, Tryz.ntmps156
  go_wp2_with fail
  go_at_call 158
  refine (small_64 _).mono ?_
  rintro e v1 ⟨rfl, rfl⟩
  go_wp2_with fail
  go_at_call 159
  refine (KA.out _).mono ?_
  rintro e v2 ⟨rfl, hc⟩
  go_wp2_with fail
  go_at_call 159
  refine (KB.out _).mono ?_
  rintro e v3 ⟨rfl, hb⟩
  replace hc := hc.trans (hb.mono hc.size)
  clear hb
  go_wp2_with fail
  go_ret
  exact ⟨rfl, hc⟩
end Go.Proofs.YtkbkalhcdbklkaaGreatDoor
namespace Go.Proofs.YtkbkalhcdbklkaaGreatDoor
open Go Go.RowKit
set_option maxRecDepth 20000
/-- A word's byte, the lowest first. -/
def bb (x i : Nat) : Nat := x / 2 ^ (8 * i) % 256
def bput (f : Nat → Value) (o s x i : Nat) (j : Nat) : Value := if o + s ≤ j + i ∧ j < o + s then .int .u8 ((bb x (o + s - 1 - j) : Nat) : Int) else f j
theorem bput_zero (f : Nat → Value) (o s x : Nat) : bput f o s x 0 = f := by
  funext j
  unfold bput
  rw [if_neg (by omega)]
theorem bput_succ (f : Nat → Value) (o s x : Nat) {i m : Nat} (hi : i < s) (hm : m = s - 1 - i) (j : Nat) : (if j = o + m then Value.int .u8 ((bb x i : Nat) : Int) else bput f o s x i j) = bput f o s x (i + 1) j := by
  unfold bput
  by_cases h : j = o + m
  · rw [if_pos h, if_pos (by omega), show o + s - 1 - j = i by omega]
  · rw [if_neg h]
    by_cases h2 : o + s ≤ j + i ∧ j < o + s
    · rw [if_pos h2, if_pos (by omega)]
    · rw [if_neg h2, if_neg (by omega)]
theorem be_or {x c : Nat} (hc : c < 256) : (x * 256) ||| c = x * 256 + c := by
  rw [Nat.mul_comm, show (256 : Nat) = 2 ^ 8 by decide]
  exact (Nat.two_pow_add_eq_or_of_lt (i := 8) (b := c) (by omega) x).symm
set_option maxHeartbeats 1600000 in
theorem number_64 {t : Nat} (ht : t < 80) (w : World) (hG : GlbS w) : Calls Tryz.prog 149 #[.int .i64 (t : Int)] w fun e w' => e = .returned (.int .u64 ((greatS.keys.getD t 0 : Nat) : Int)) ∧ w' = w := by
  have hc := hG.d t ht
  generalize greatS.keys.getD t 0 = r at *
  have h1 : (t : Int) < 80 := by omega
  have h2 : (0 : Int) ≤ (t : Int) := by omega
  clear hG
  go_enter Tryz.func149, Tryz.ntmps149
  go_wp2_with fail
  go_at_call 158
  refine (small_64 _).mono ?_
  rintro e v1 ⟨rfl, rfl⟩
  go_wp2_with fail
  go_ret
  exact ⟨rfl, rfl⟩
theorem be_fit_64 {y : Nat → Nat} (hy : ∀ i, y i < 256) (p : Nat) {k : Nat} (hk : k < 8) : be y p k < 72057594037927936 := Nat.lt_of_lt_of_le (be_lt hy p k) (Nat.le_trans (Nat.pow_le_pow_right (by decide) (show k ≤ 8 - 1 by omega)) (by decide))
set_option maxHeartbeats 1600000 in
theorem get_64 {y : Nat → Nat} (hy : ∀ i, y i < 256) {b o p c : Nat} (w : World) (hr : ∀ k, k < 8 → w.cell? ⟨b, o + k, none⟩ = some (.int .u8 ((y (p + k) : Nat) : Int))) :
    Calls Tryz.prog 155 #[.slice (some ⟨b, o, none⟩) 8 c] w fun e w' => e = .returned (.int .u64 ((be y p 8 : Nat) : Int)) ∧ w' = w := by
  have HR := Lib.hid hr
  have HY := Lib.hid hy
  have HB := Lib.hid (fun k hk => be_fit_64 hy p (k := k) hk)
  clear hr hy
  go_enter Tryz.func155, Tryz.ntmps155
  go_wp2_with fail
  go_loop [3, 7] (fun v i => ∃ k : Nat, k ≤ 8 ∧ i = .int .i64 (k : Int) ∧ v = .int .u64 ((be y p k : Nat) : Int))
    (fun _ i => 8 - (intOf i).toNat)
  case atStart => exact ⟨0, by omega, rfl, by rw [be_zero]; rfl⟩
  case round =>
    obtain ⟨k, hk, rfl, rfl⟩ := hrel
    by_cases hlt : k < 8
    · have g1 : (k : Int) < 8 := by omega
      have cc := HR.out k hlt
      have hs := be_succ y p k
      have hb := HB.out k hlt
      have hy := HY.out (p + k)
      generalize y (p + k) = c2 at *
      rw [← be_or hy] at hs
      have e1 : IntKind.u64.wrap (be y p k * 256 : Int) = ((be y p k * 256 : Nat) : Int) := by rw [IntKind.wrap_u64]; omega
      have e2 : IntKind.u64.wrap (c2 : Int) = (c2 : Int) := by rw [IntKind.wrap_u64]; omega
      have e3 := bits_or_u64_nat (be y p k * 256) c2 (by omega) (by omega)
      rw [← hs] at e3
      generalize hz : be y p (k + 1) = z at *
      have HZ := Lib.hid hz
      generalize hx : be y p k = x at *
      generalize hx2 : x * 256 = x2 at *
      clear hs hx hz hy hb hx2
      go_wp2_with fail
      go_round
      case rel => exact ⟨k + 1, by omega, by go_num, by rw [HZ.out]⟩
      case measure => simp [intOf]; omega
    · obtain rfl : k = 8 := by omega
      simp only [Int.cast_ofNat_Int]
      go_wp2_with fail
      go_ret
      exact ⟨rfl, rfl⟩
set_option maxHeartbeats 1600000 in
theorem put_64 {B g o N C cap x : Nat} {f : Nat → Value} {e0 : TypeId} (ho : o + 8 ≤ N) (w : World) (ow : OwnF w B e0 (some ⟨g, 0, none⟩) C N f) :
    Calls Tryz.prog 122 #[.slice (some ⟨g, o, none⟩) 8 cap, .int .u64 (x : Int)] w fun e w' => e = .returned (.tuple #[]) ∧ OwnF w' B e0 (some ⟨g, 0, none⟩) C N (bput f o 8 x 8) ∧ Only g w w' := by
  go_enter Tryz.func122, Tryz.ntmps122
  go_wp2_with fail
  go_loopw [7] (fun i wr => ∃ k : Nat, k ≤ 8 ∧ i = .int .i64 (k : Int) ∧ OwnF wr B e0 (some ⟨g, 0, none⟩) C N (bput f o 8 x k) ∧ Only g w wr)
    (fun i _ => 8 - (intOf i).toNat)
  case atStart => exact ⟨0, by omega, rfl, by rw [bput_zero]; exact ow, Only.refl _ _⟩
  case round =>
    clear ow
    obtain ⟨k, hk, rfl, ow, hb⟩ := hrel
    by_cases hlt : k < 8
    · have g1 : (k : Int) < 8 := by omega
      obtain ⟨m, hm⟩ : ∃ m, m = 8 - 1 - k := ⟨_, rfl⟩
      have cc := ow.cell (k := o + m) (by omega)
      have ff := ow.free (o + m)
      have e1 : IntKind.i64.wrap (7 - (k : Int)) = (m : Int) := by rw [IntKind.wrap_i64]; omega
      have e2 : IntKind.i64.wrap (8 * (k : Int)) = ((8 * k : Nat) : Int) := by rw [IntKind.wrap_i64]; omega
      have e3 : (x : Int) / 2 ^ min (8 * k) 64 = ((x / 2 ^ (8 * k) : Nat) : Int) := by rw [Nat.min_eq_left (by omega)]; simp
      have hzb : bb x k = x / 2 ^ (8 * k) % 256 := rfl
      generalize hz : x / 2 ^ (8 * k) = z at *
      have e4 : IntKind.u8.wrap (z : Int) = ((bb x k : Nat) : Int) := by rw [IntKind.wrap_u8]; omega
      have h1 : (0 : Int) ≤ (m : Int) := by omega
      have h2 : (m : Int) < 8 := by omega
      have hset := ow.set_ (o + m) (.int .u8 ((bb x k : Nat) : Int))
      have hcg := Lib.hid (OwnF.congr hset fun j _ => bput_succ f o 8 x hlt hm j)
      have ho2 := Lib.hid (hb.trans (Only.setCell wr ⟨g, o + m, none⟩ (.int .u8 ((bb x k : Nat) : Int))))
      generalize bb x k = zb at *
      generalize h8 : 8 * k = k8 at *
      have g8 : (0 : Int) ≤ (k8 : Int) := by omega
      clear hzb hm hset ow hb hz h8
      go_wp2_with fail
      exact ⟨⟨k + 1, by omega, by go_num, hcg.out, ho2.out⟩, by simp [intOf]; omega⟩
    · obtain rfl : k = 8 := by omega
      simp only [Int.cast_ofNat_Int]
      go_wp2_with fail
      exact bodyPost_end (v := .tuple #[]) (by simp [results, Tryz.results122, go_sem]) rfl ⟨rfl, ow, hb⟩
end Go.Proofs.YtkbkalhcdbklkaaGreatDoor
