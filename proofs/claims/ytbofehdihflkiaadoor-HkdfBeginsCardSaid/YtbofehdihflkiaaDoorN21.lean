/-
  The code's size, small, rounds, turn, upper and lower, of both words (layer 6). Written by tools/gen_n21.py. By an AI agent.
-/
import Derived.Test.YtbofehdihflkiaaDoorN18
import Derived.Test.YtbofehdihflkiaaDoorN7
import Derived.Test.YtbofehdihflkiaaDoorInv
import Derived.Laws.BitsAllLaws
namespace Go.Proofs.YtbofehdihflkiaaDoor
open Go Go.RowKit
set_option maxRecDepth 20000
theorem bits_or_u32_nat (a b : Nat) (ha : a < 4294967296) (hb : b < 4294967296) : bits .or .u32 (a : Int) (b : Int) = ((a ||| b : Nat) : Int) := by rw [u32_or _ _ (by omega) (by omega) (by omega) (by omega)]; simp
theorem bits_xor_u32_nat (a b : Nat) (ha : a < 4294967296) (hb : b < 4294967296) : bits .xor .u32 (a : Int) (b : Int) = ((a ^^^ b : Nat) : Int) := by rw [u32_xor _ _ (by omega) (by omega) (by omega) (by omega)]; simp
theorem bits_and_u32_nat' (a b : Nat) (ha : a < 4294967296) (hb : b < 4294967296) : bits .and .u32 (a : Int) (b : Int) = ((a &&& b : Nat) : Int) := by rw [u32_and _ _ (by omega) (by omega) (by omega) (by omega)]; simp
set_option maxHeartbeats 1600000 in
theorem len64_32 (w : World) : Calls Tryd.prog 50 #[.int .u64 4294967295] w fun e w' => e = .returned (.int .i64 32) ∧ w' = w := by
  go_enter Tryd.func50, Tryd.ntmps50
  go_wp2_with fail
  go_ret
  exact ⟨by kernel_rfl, rfl⟩
theorem size_32 (w : World) : Calls Tryd.prog 43 #[] w fun e w' => e = .returned (.int .i64 4) ∧ w' = w := by
  go_enter Tryd.func43, Tryd.ntmps43
  go_wp2_with fail
  go_at_call 50
  refine (len64_32 _).mono ?_
  rintro e v1 ⟨rfl, rfl⟩
  go_wp2_with fail
  go_ret
  exact ⟨rfl, rfl⟩
theorem size_32b (w : World) : Calls Tryd.prog 43 #[] w fun e w' => e = .returned (.int .i64 4) ∧ Below w.heap.size w w' :=
  (size_32 w).mono fun e w' h => ⟨h.1, by rw [h.2]; exact Below.refl _ _⟩
theorem small_32 (w : World) : Calls Tryd.prog 59 #[] w fun e w' => e = .returned (.bool true) ∧ w' = w := by
  go_enter Tryd.func59, Tryd.ntmps59
  go_wp2_with fail
  go_at_call 43
  refine (size_32 _).mono ?_
  rintro e v1 ⟨rfl, rfl⟩
  go_wp2_with fail
  go_ret
  exact ⟨rfl, rfl⟩
theorem rounds_32 (w : World) : Calls Tryd.prog 52 #[] w fun e w' => e = .returned (.int .i64 64) ∧ w' = w := by
  go_enter Tryd.func52, Tryd.ntmps52
  go_wp2_with fail
  go_at_call 59
  refine (small_32 _).mono ?_
  rintro e v1 ⟨rfl, rfl⟩
  go_wp2_with fail
  go_ret
  exact ⟨rfl, rfl⟩
set_option maxHeartbeats 1600000 in
theorem len64_64 (w : World) : Calls Tryd.prog 50 #[.int .u64 18446744073709551615] w fun e w' => e = .returned (.int .i64 64) ∧ w' = w := by
  go_enter Tryd.func50, Tryd.ntmps50
  go_wp2_with fail
  go_ret
  exact ⟨by kernel_rfl, rfl⟩
theorem turn_nums_32 {x n : Nat} (hx : x < 4294967296) (hn : n ≤ 32) : ∃ q r c z : Nat, z = rotN 32 x n ∧ (x : Int) / 2 ^ min n 32 = (q : Int) ∧ IntKind.i64.wrap (32 - (n : Int)) = (c : Int) ∧ IntKind.u32.wrap ((x : Int) * 2 ^ min c 32) = (r : Int) ∧ bits .or .u32 (q : Int) (r : Int) = (z : Int) := by
  refine ⟨x / 2 ^ n, x * 2 ^ (32 - n) % 2 ^ 32, 32 - n, rotN 32 x n, rfl, ?_, ?_, ?_, ?_⟩
  · rw [Nat.min_eq_left hn]; simp
  · rw [IntKind.wrap_i64]; omega
  · rw [Nat.min_eq_left (by omega), IntKind.wrap_u32]
    have : (x : Int) * 2 ^ (32 - n) = ((x * 2 ^ (32 - n) : Nat) : Int) := by simp
    rw [this, show (2 : Nat) ^ 32 = 4294967296 by decide]
    generalize x * 2 ^ (32 - n) = y
    omega
  · rw [rotN_or (b := 32) hx hn]
    exact bits_or_u32_nat _ _ (Nat.lt_of_le_of_lt (Nat.div_le_self _ _) hx) (Nat.mod_lt _ (by decide))
set_option maxHeartbeats 1600000 in
theorem turn_32 {x n : Nat} (hx : x < 4294967296) (hn : n ≤ 32) (w : World) : Calls Tryd.prog 60 #[.int .u32 (x : Int), .int .i64 (n : Int)] w fun e w' => e = .returned (.int .u32 ((rotN 32 x n : Nat) : Int)) ∧ Below w.heap.size w w' := by
  obtain ⟨q, r, c, z, hz, h1, h2, h3, h4⟩ := turn_nums_32 hx hn
  rw [← hz]
  have hn0 : 0 ≤ (n : Int) := by omega
  have H1 := Lib.hid h1
  have H2 := Lib.hid h2
  have H3 := Lib.hid h3
  have H4 := Lib.hid h4
  clear h1 h2 h3 h4 hz hx hn
  go_enter Tryd.func60, Tryd.ntmps60
  go_upto_region 1 with fail
  refine wp_region_inv 10 [5, 6, 7, 8, 9, 10, 11, 12, 13, 14] [.val (.int .u32 (x : Int)), .val (.int .i64 (n : Int)), .val (.int .u32 (q : Int)), .val (.int .u32 (x : Int)), .val (.int .i64 4), .val (.int .i64 32), .val (.int .i64 (n : Int)), .val (.int .i64 (c : Int)), .val (.int .u32 (r : Int)), .val (.int .u32 (z : Int))] (fun wz => Below w.heap.size w wz) (by kernel_rfl) (by kernel_rfl) (fun wz wz' hz hb => hz.trans (hb.mono hz.size)) ((Below.refl _ _).drew) (fun u => by simp only [puts, List.foldl_cons, List.foldl_nil]; go_simp; exact rfl) ?_ ?_
  · simp only [List.take_succ_cons, List.take_zero]
    refine Obs.cons (fun u w hS hd => ?_) ?_
    · exact Gv.run (.int .u32 (x : Int)) rfl (by go_simp) rfl
    refine Obs.cons (fun u w hS hd => ?_) ?_
    · exact Gv.run (.int .i64 (n : Int)) rfl (by go_simp) rfl
    refine Obs.cons (fun u w hS hd => ?_) ?_
    · have d5 : u 5 = .int .u32 (x : Int) := dep hd 0 rfl
      have d6 : u 6 = .int .i64 (n : Int) := dep hd 1 rfl
      rw [d5, d6]
      have hq := H1.out
      exact Gv.run (.int .u32 (q : Int)) rfl (by go_simp) rfl
    refine Obs.cons (fun u w hS hd => ?_) ?_
    · exact Gv.run (.int .u32 (x : Int)) rfl (by go_simp) rfl
    refine Obs.cons (fun u w hS hd => ?_) ?_
    · refine Gv.call 43 #[] rfl (by go_simp) ((size_32b w).mono ?_)
      rintro e w' ⟨rfl, hb⟩
      exact ⟨_, rfl, rfl, hb⟩
    refine Obs.cons (fun u w hS hd => ?_) ?_
    · have d9 : u 9 = .int .i64 4 := dep hd 4 rfl
      rw [d9]
      have hq : IntKind.i64.wrap 32 = 32 := rfl
      exact Gv.run (.int .i64 32) rfl (by go_simp) rfl
    refine Obs.cons (fun u w hS hd => ?_) ?_
    · exact Gv.run (.int .i64 (n : Int)) rfl (by go_simp) rfl
    refine Obs.cons (fun u w hS hd => ?_) ?_
    · have d10 : u 10 = .int .i64 32 := dep hd 5 rfl
      have d11 : u 11 = .int .i64 (n : Int) := dep hd 6 rfl
      rw [d10, d11]
      have hq := H2.out
      exact Gv.run (.int .i64 (c : Int)) rfl (by go_simp) rfl
    refine Obs.cons (fun u w hS hd => ?_) ?_
    · have d8 : u 8 = .int .u32 (x : Int) := dep hd 3 rfl
      have d12 : u 12 = .int .i64 (c : Int) := dep hd 7 rfl
      rw [d8, d12]
      have hq := H3.out
      exact Gv.run (.int .u32 (r : Int)) rfl (by go_simp) rfl
    refine Obs.cons (fun u w hS hd => ?_) ?_
    · have d7 : u 7 = .int .u32 (q : Int) := dep hd 2 rfl
      have d13 : u 13 = .int .u32 (r : Int) := dep hd 8 rfl
      rw [d7, d13]
      have hq := H4.out
      exact Gv.run (.int .u32 (z : Int)) rfl (by go_simp) rfl
    exact Obs.nil
  intro u wz hS hd
  have d14 : u 14 = .int .u32 (z : Int) := hd 9 (by decide)
  rw [d14]
  simp only [List.drop_succ_cons, List.drop_zero]
  go_wp2_with fail
  go_ret
  exact ⟨rfl, hS⟩
theorem turn_nums_64 {x n : Nat} (hx : x < 18446744073709551616) (hn : n ≤ 64) : ∃ q r c z : Nat, z = rotN 64 x n ∧ (x : Int) / 2 ^ min n 64 = (q : Int) ∧ IntKind.i64.wrap (64 - (n : Int)) = (c : Int) ∧ IntKind.u64.wrap ((x : Int) * 2 ^ min c 64) = (r : Int) ∧ bits .or .u64 (q : Int) (r : Int) = (z : Int) := by
  refine ⟨x / 2 ^ n, x * 2 ^ (64 - n) % 2 ^ 64, 64 - n, rotN 64 x n, rfl, ?_, ?_, ?_, ?_⟩
  · rw [Nat.min_eq_left hn]; simp
  · rw [IntKind.wrap_i64]; omega
  · rw [Nat.min_eq_left (by omega), IntKind.wrap_u64]
    have : (x : Int) * 2 ^ (64 - n) = ((x * 2 ^ (64 - n) : Nat) : Int) := by simp
    rw [this, show (2 : Nat) ^ 64 = 18446744073709551616 by decide]
    generalize x * 2 ^ (64 - n) = y
    omega
  · rw [rotN_or (b := 64) hx hn]
    exact bits_or_u64_nat _ _ (Nat.lt_of_le_of_lt (Nat.div_le_self _ _) hx) (Nat.mod_lt _ (by decide))
set_option maxHeartbeats 1600000 in
theorem upper0_32 {x : Nat} (hx : x < 4294967296) (w : World) : Calls Tryd.prog 55 #[.int .u32 (x : Int)] w fun e w' => e = .returned (.int .u32 ((turnedN 32 x (2, 13, 22) : Nat) : Int)) ∧ Below w.heap.size w w' := by
  have ka : ∀ w, Calls Tryd.prog 60 #[.int .u32 (x : Int), .int .i64 2] w fun e w' => e = .returned (.int .u32 ((rotN 32 x 2 : Nat) : Int)) ∧ Below w.heap.size w w' := fun w => turn_32 (n := 2) hx (by decide) w
  have kb : ∀ w, Calls Tryd.prog 60 #[.int .u32 (x : Int), .int .i64 13] w fun e w' => e = .returned (.int .u32 ((rotN 32 x 13 : Nat) : Int)) ∧ Below w.heap.size w w' := fun w => turn_32 (n := 13) hx (by decide) w
  have kc : ∀ w, Calls Tryd.prog 60 #[.int .u32 (x : Int), .int .i64 22] w fun e w' => e = .returned (.int .u32 ((rotN 32 x 22 : Nat) : Int)) ∧ Below w.heap.size w w' := fun w => turn_32 (n := 22) hx (by decide) w
  have la : rotN 32 x 2 < 4294967296 := rotN_lt (b := 32) (by decide) hx 2
  have lb : rotN 32 x 13 < 4294967296 := rotN_lt (b := 32) (by decide) hx 13
  have lc : rotN 32 x 22 < 4294967296 := rotN_lt (b := 32) (by decide) hx 22
  have hz : turnedN 32 x (2, 13, 22) = (rotN 32 x 2 ^^^ rotN 32 x 13) ^^^ rotN 32 x 22 := rfl
  rw [hz]
  generalize rotN 32 x 2 = a at *
  generalize rotN 32 x 13 = b at *
  generalize rotN 32 x 22 = c at *
  have E1 := bits_xor_u32_nat a b la lb
  have E2 := bits_xor_u32_nat (a ^^^ b) c (Nat.xor_lt_two_pow (n := 32) la lb) lc
  generalize a ^^^ b = d at *
  generalize d ^^^ c = z at *
  have KA := Lib.hid ka
  have KB := Lib.hid kb
  have KC := Lib.hid kc
  clear ka kb kc la lb lc hz hx
  go_enter Tryd.func55, Tryd.ntmps55
  go_wp2_with fail
  go_at_call 59
  refine (small_32 _).mono ?_
  rintro e v1 ⟨rfl, rfl⟩
  go_wp2_with fail
  go_at_call 60
  refine (KA.out _).mono ?_
  rintro e v2 ⟨rfl, hc⟩
  go_wp2_with fail
  go_at_call 60
  refine (KB.out _).mono ?_
  rintro e v3 ⟨rfl, hb⟩
  replace hc := hc.trans (hb.mono hc.size)
  clear hb
  go_wp2_with fail
  go_at_call 60
  refine (KC.out _).mono ?_
  rintro e v4 ⟨rfl, hb⟩
  replace hc := hc.trans (hb.mono hc.size)
  clear hb
  go_wp2_with fail
  go_ret
  exact ⟨rfl, hc⟩
set_option maxHeartbeats 1600000 in
theorem upper1_32 {x : Nat} (hx : x < 4294967296) (w : World) : Calls Tryd.prog 53 #[.int .u32 (x : Int)] w fun e w' => e = .returned (.int .u32 ((turnedN 32 x (6, 11, 25) : Nat) : Int)) ∧ Below w.heap.size w w' := by
  have ka : ∀ w, Calls Tryd.prog 60 #[.int .u32 (x : Int), .int .i64 6] w fun e w' => e = .returned (.int .u32 ((rotN 32 x 6 : Nat) : Int)) ∧ Below w.heap.size w w' := fun w => turn_32 (n := 6) hx (by decide) w
  have kb : ∀ w, Calls Tryd.prog 60 #[.int .u32 (x : Int), .int .i64 11] w fun e w' => e = .returned (.int .u32 ((rotN 32 x 11 : Nat) : Int)) ∧ Below w.heap.size w w' := fun w => turn_32 (n := 11) hx (by decide) w
  have kc : ∀ w, Calls Tryd.prog 60 #[.int .u32 (x : Int), .int .i64 25] w fun e w' => e = .returned (.int .u32 ((rotN 32 x 25 : Nat) : Int)) ∧ Below w.heap.size w w' := fun w => turn_32 (n := 25) hx (by decide) w
  have la : rotN 32 x 6 < 4294967296 := rotN_lt (b := 32) (by decide) hx 6
  have lb : rotN 32 x 11 < 4294967296 := rotN_lt (b := 32) (by decide) hx 11
  have lc : rotN 32 x 25 < 4294967296 := rotN_lt (b := 32) (by decide) hx 25
  have hz : turnedN 32 x (6, 11, 25) = (rotN 32 x 6 ^^^ rotN 32 x 11) ^^^ rotN 32 x 25 := rfl
  rw [hz]
  generalize rotN 32 x 6 = a at *
  generalize rotN 32 x 11 = b at *
  generalize rotN 32 x 25 = c at *
  have E1 := bits_xor_u32_nat a b la lb
  have E2 := bits_xor_u32_nat (a ^^^ b) c (Nat.xor_lt_two_pow (n := 32) la lb) lc
  generalize a ^^^ b = d at *
  generalize d ^^^ c = z at *
  have KA := Lib.hid ka
  have KB := Lib.hid kb
  have KC := Lib.hid kc
  clear ka kb kc la lb lc hz hx
  go_enter Tryd.func53, Tryd.ntmps53
  go_wp2_with fail
  go_at_call 59
  refine (small_32 _).mono ?_
  rintro e v1 ⟨rfl, rfl⟩
  go_wp2_with fail
  go_at_call 60
  refine (KA.out _).mono ?_
  rintro e v2 ⟨rfl, hc⟩
  go_wp2_with fail
  go_at_call 60
  refine (KB.out _).mono ?_
  rintro e v3 ⟨rfl, hb⟩
  replace hc := hc.trans (hb.mono hc.size)
  clear hb
  go_wp2_with fail
  go_at_call 60
  refine (KC.out _).mono ?_
  rintro e v4 ⟨rfl, hb⟩
  replace hc := hc.trans (hb.mono hc.size)
  clear hb
  go_wp2_with fail
  go_ret
  exact ⟨rfl, hc⟩
set_option maxHeartbeats 1600000 in
theorem lower0_32 {x : Nat} (hx : x < 4294967296) (w : World) : Calls Tryd.prog 58 #[.int .u32 (x : Int)] w fun e w' => e = .returned (.int .u32 ((shiftedN 32 x (7, 18, 3) : Nat) : Int)) ∧ Below w.heap.size w w' := by
  have ka : ∀ w, Calls Tryd.prog 60 #[.int .u32 (x : Int), .int .i64 7] w fun e w' => e = .returned (.int .u32 ((rotN 32 x 7 : Nat) : Int)) ∧ Below w.heap.size w w' := fun w => turn_32 (n := 7) hx (by decide) w
  have kb : ∀ w, Calls Tryd.prog 60 #[.int .u32 (x : Int), .int .i64 18] w fun e w' => e = .returned (.int .u32 ((rotN 32 x 18 : Nat) : Int)) ∧ Below w.heap.size w w' := fun w => turn_32 (n := 18) hx (by decide) w
  have la : rotN 32 x 7 < 4294967296 := rotN_lt (b := 32) (by decide) hx 7
  have lb : rotN 32 x 18 < 4294967296 := rotN_lt (b := 32) (by decide) hx 18
  have lc : sh2 x 3 < 4294967296 := Nat.lt_of_le_of_lt (sh2_le _ _) hx
  have hsc : sh2 x 3 = x / 8 := rfl
  have hz : shiftedN 32 x (7, 18, 3) = (rotN 32 x 7 ^^^ rotN 32 x 18) ^^^ sh2 x 3 := rfl
  rw [hz]
  generalize rotN 32 x 7 = a at *
  generalize rotN 32 x 18 = b at *
  generalize sh2 x 3 = c at *
  have E1 := bits_xor_u32_nat a b la lb
  have E2 := bits_xor_u32_nat (a ^^^ b) c (Nat.xor_lt_two_pow (n := 32) la lb) lc
  generalize a ^^^ b = d at *
  generalize d ^^^ c = z at *
  have hs : (x : Int) / 8 = (c : Int) := by omega
  clear hsc
  have KA := Lib.hid ka
  have KB := Lib.hid kb
  clear ka kb la lb lc hz hx
  go_enter Tryd.func58, Tryd.ntmps58
  go_wp2_with fail
  go_at_call 59
  refine (small_32 _).mono ?_
  rintro e v1 ⟨rfl, rfl⟩
  go_wp2_with fail
  go_at_call 60
  refine (KA.out _).mono ?_
  rintro e v2 ⟨rfl, hc⟩
  go_wp2_with fail
  go_at_call 60
  refine (KB.out _).mono ?_
  rintro e v3 ⟨rfl, hb⟩
  replace hc := hc.trans (hb.mono hc.size)
  clear hb
  go_wp2_with fail
  go_ret
  exact ⟨rfl, hc⟩
set_option maxHeartbeats 1600000 in
theorem lower1_32 {x : Nat} (hx : x < 4294967296) (w : World) : Calls Tryd.prog 57 #[.int .u32 (x : Int)] w fun e w' => e = .returned (.int .u32 ((shiftedN 32 x (17, 19, 10) : Nat) : Int)) ∧ Below w.heap.size w w' := by
  have ka : ∀ w, Calls Tryd.prog 60 #[.int .u32 (x : Int), .int .i64 17] w fun e w' => e = .returned (.int .u32 ((rotN 32 x 17 : Nat) : Int)) ∧ Below w.heap.size w w' := fun w => turn_32 (n := 17) hx (by decide) w
  have kb : ∀ w, Calls Tryd.prog 60 #[.int .u32 (x : Int), .int .i64 19] w fun e w' => e = .returned (.int .u32 ((rotN 32 x 19 : Nat) : Int)) ∧ Below w.heap.size w w' := fun w => turn_32 (n := 19) hx (by decide) w
  have la : rotN 32 x 17 < 4294967296 := rotN_lt (b := 32) (by decide) hx 17
  have lb : rotN 32 x 19 < 4294967296 := rotN_lt (b := 32) (by decide) hx 19
  have lc : sh2 x 10 < 4294967296 := Nat.lt_of_le_of_lt (sh2_le _ _) hx
  have hsc : sh2 x 10 = x / 1024 := rfl
  have hz : shiftedN 32 x (17, 19, 10) = (rotN 32 x 17 ^^^ rotN 32 x 19) ^^^ sh2 x 10 := rfl
  rw [hz]
  generalize rotN 32 x 17 = a at *
  generalize rotN 32 x 19 = b at *
  generalize sh2 x 10 = c at *
  have E1 := bits_xor_u32_nat a b la lb
  have E2 := bits_xor_u32_nat (a ^^^ b) c (Nat.xor_lt_two_pow (n := 32) la lb) lc
  generalize a ^^^ b = d at *
  generalize d ^^^ c = z at *
  have hs : (x : Int) / 1024 = (c : Int) := by omega
  clear hsc
  have KA := Lib.hid ka
  have KB := Lib.hid kb
  clear ka kb la lb lc hz hx
  go_enter Tryd.func57, Tryd.ntmps57
  go_wp2_with fail
  go_at_call 59
  refine (small_32 _).mono ?_
  rintro e v1 ⟨rfl, rfl⟩
  go_wp2_with fail
  go_at_call 60
  refine (KA.out _).mono ?_
  rintro e v2 ⟨rfl, hc⟩
  go_wp2_with fail
  go_at_call 60
  refine (KB.out _).mono ?_
  rintro e v3 ⟨rfl, hb⟩
  replace hc := hc.trans (hb.mono hc.size)
  clear hb
  go_wp2_with fail
  go_ret
  exact ⟨rfl, hc⟩
end Go.Proofs.YtbofehdihflkiaaDoor
