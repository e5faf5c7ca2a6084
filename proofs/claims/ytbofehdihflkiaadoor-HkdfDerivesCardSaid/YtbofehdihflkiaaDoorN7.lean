/-
  The document's turned, shifted (layer 6), over letters. Written by tools/gen_n7.py. By an AI agent.
-/
import Derived.Test.YtbofehdihflkiaaDoorN6
import Derived.Test.YtbofehdihflkiaaDoorInv
namespace Go.Proofs.YtbofehdihflkiaaDoor
open Go Go.RowKit
abbrev tv (a b c : Nat) : Value := .agg #[.int .i64 (a : Int), .int .i64 (b : Int), .int .i64 (c : Int)]
theorem kt_start (K : Kd) (a b c : Nat) (w : World) : ∃ v, v = (w.alloc (AK K)).alloc (.cells #[.int .i64 (a : Int), .int .i64 (b : Int), .int .i64 (c : Int)] 43) ∧ OK v w.heap.size w.heap.size K ∧
    (∀ wz, Below v.heap.size v wz → wz.cell? ⟨w.heap.size + 1, 0, none⟩ = some (.int .i64 (a : Int)) ∧ wz.cell? ⟨w.heap.size + 1, 1, none⟩ = some (.int .i64 (b : Int)) ∧ wz.cell? ⟨w.heap.size + 1, 2, none⟩ = some (.int .i64 (c : Int))) ∧ Below w.heap.size w v := by
  have s1 : (w.alloc (AK K)).heap.size = w.heap.size + 1 := by simp
  have o := OwnF.lit (w := w.alloc (AK K)) (B := w.heap.size) 43 (by omega) #[.int .i64 (a : Int), .int .i64 (b : Int), .int .i64 (c : Int)] 3 (fun k => [Value.int .i64 (a : Int), .int .i64 (b : Int), .int .i64 (c : Int)].getD k undef) (by decide) rfl
  rw [s1] at o
  refine ⟨_, rfl, (OK.new (Nat.le_refl _) K).alloc _, fun wz hz => ?_, ((Below.refl _ w).alloc (Nat.le_refl _) _).alloc (by omega) _⟩
  have o2 := OwnF.keep o hz
  exact ⟨o2.cell (k := 0) (by decide), o2.cell (k := 1) (by decide), o2.cell (k := 2) (by decide)⟩
attribute [local irreducible] Kd.cells kf
set_option maxRecDepth 20000
set_option maxHeartbeats 1600000 in
theorem turned_gen {K : Kd} {x a b c ra rb rc rd re : Nat}
    (ka : ∀ w, Calls Tryd.prog 49 #[kv K, .int .u64 (x : Int), .int .i64 (a : Int)] w fun e w' => e = .returned (.int .u64 (ra : Int)) ∧ Below w.heap.size w w')
    (kb : ∀ w, Calls Tryd.prog 49 #[kv K, .int .u64 (x : Int), .int .i64 (b : Int)] w fun e w' => e = .returned (.int .u64 (rb : Int)) ∧ Below w.heap.size w w')
    (kc : ∀ w, Calls Tryd.prog 49 #[kv K, .int .u64 (x : Int), .int .i64 (c : Int)] w fun e w' => e = .returned (.int .u64 (rc : Int)) ∧ Below w.heap.size w w')
    (E1 : bits .xor .u64 (ra : Int) (rb : Int) = (rd : Int)) (E2 : bits .xor .u64 (rd : Int) (rc : Int) = (re : Int)) (w : World) :
    Calls Tryd.prog 40 #[kv K, .int .u64 (x : Int), tv a b c] w fun e w' => e = .returned (.int .u64 (re : Int)) ∧ Below w.heap.size w w' := by
  have KA := Lib.hid ka
  have KB := Lib.hid kb
  have KC := Lib.hid kc
  clear ka kb kc
  obtain ⟨v0, ev, o3, h5, hc⟩ := kt_start K a b c w
  have H5 := Lib.hid h5
  clear h5
  go_enter Tryd.func40, Tryd.ntmps40
  go_upto_region 1 with fail
  rw [← ev]
  obtain ⟨g3, eg3⟩ : ∃ g, g = w.heap.size := ⟨_, rfl⟩
  obtain ⟨g5, eg5⟩ : ∃ g, g = w.heap.size + 1 := ⟨_, rfl⟩
  rw [show (Value.pointer (some ⟨w.heap.size, 0, none⟩)) = .pointer (some ⟨g3, 0, none⟩) by rw [eg3], show (Value.pointer (some ⟨w.heap.size + 1, 0, none⟩)) = .pointer (some ⟨g5, 0, none⟩) by rw [eg5]]
  replace o3 : OK v0 w.heap.size g3 K := by rw [eg3]; exact o3
  rw [← eg5] at H5
  clear ev eg3 eg5
  refine wp_region_inv 17 [7, 8, 9, 10, 11, 12, 13, 14, 15, 16, 17, 18, 19, 20, 21, 22, 23] [.val (kv K), .val (.int .u64 (x : Int)), .val (.pointer (some ⟨g5, 0, none⟩)), .val (.int .i64 (a : Int)), .val (.int .u64 (ra : Int)), .val (kv K), .val (.int .u64 (x : Int)), .val (.pointer (some ⟨g5, 1, none⟩)), .val (.int .i64 (b : Int)), .val (.int .u64 (rb : Int)), .val (.int .u64 (rd : Int)), .val (kv K), .val (.int .u64 (x : Int)), .val (.pointer (some ⟨g5, 2, none⟩)), .val (.int .i64 (c : Int)), .val (.int .u64 (rc : Int)), .val (.int .u64 (re : Int))] (fun wz => Below v0.heap.size v0 wz) (by kernel_rfl) (by kernel_rfl) (fun wz wz' hz hb => hz.trans (hb.mono hz.size)) ((Below.refl _ _).drew) (fun u => by simp only [puts, List.foldl_cons, List.foldl_nil]; go_simp; exact rfl) ?_ ?_
  · simp only [List.take_succ_cons, List.take_zero]
    refine Obs.cons (fun u w hS hd => ?_) ?_
    · exact Gv.run (kv K) rfl (run_kload rfl rfl (o3.keep hS)) rfl
    refine Obs.cons (fun u w hS hd => ?_) ?_
    · exact Gv.run (.int .u64 (x : Int)) rfl (by go_simp) rfl
    refine Obs.cons (fun u w hS hd => ?_) ?_
    · exact Gv.run (.pointer (some ⟨g5, 0, none⟩)) rfl (by go_simp) rfl
    refine Obs.cons (fun u w hS hd => ?_) ?_
    · have d9 : u 9 = .pointer (some ⟨g5, 0, none⟩) := dep hd 2 rfl
      rw [d9]
      exact Gv.run (.int .i64 (a : Int)) rfl (by have hc := H5.out w hS; obtain ⟨c0, c1, c2⟩ := hc; go_simp) rfl
    refine Obs.cons (fun u w hS hd => ?_) ?_
    · have d7 : u 7 = kv K := dep hd 0 rfl
      have d8 : u 8 = .int .u64 (x : Int) := dep hd 1 rfl
      have d10 : u 10 = .int .i64 (a : Int) := dep hd 3 rfl
      rw [d7, d8, d10]
      refine Gv.call 49 #[kv K, .int .u64 (x : Int), .int .i64 (a : Int)] rfl (by go_simp) ((KA.out w).mono ?_)
      rintro e w' ⟨rfl, hb⟩
      exact ⟨_, rfl, rfl, hb⟩
    refine Obs.cons (fun u w hS hd => ?_) ?_
    · exact Gv.run (kv K) rfl (run_kload rfl rfl (o3.keep hS)) rfl
    refine Obs.cons (fun u w hS hd => ?_) ?_
    · exact Gv.run (.int .u64 (x : Int)) rfl (by go_simp) rfl
    refine Obs.cons (fun u w hS hd => ?_) ?_
    · exact Gv.run (.pointer (some ⟨g5, 1, none⟩)) rfl (by go_simp) rfl
    refine Obs.cons (fun u w hS hd => ?_) ?_
    · have d14 : u 14 = .pointer (some ⟨g5, 1, none⟩) := dep hd 7 rfl
      rw [d14]
      exact Gv.run (.int .i64 (b : Int)) rfl (by have hc := H5.out w hS; obtain ⟨c0, c1, c2⟩ := hc; go_simp) rfl
    refine Obs.cons (fun u w hS hd => ?_) ?_
    · have d12 : u 12 = kv K := dep hd 5 rfl
      have d13 : u 13 = .int .u64 (x : Int) := dep hd 6 rfl
      have d15 : u 15 = .int .i64 (b : Int) := dep hd 8 rfl
      rw [d12, d13, d15]
      refine Gv.call 49 #[kv K, .int .u64 (x : Int), .int .i64 (b : Int)] rfl (by go_simp) ((KB.out w).mono ?_)
      rintro e w' ⟨rfl, hb⟩
      exact ⟨_, rfl, rfl, hb⟩
    refine Obs.cons (fun u w hS hd => ?_) ?_
    · have d11 : u 11 = .int .u64 (ra : Int) := dep hd 4 rfl
      have d16 : u 16 = .int .u64 (rb : Int) := dep hd 9 rfl
      rw [d11, d16]
      have hx := E1
      exact Gv.run (.int .u64 (rd : Int)) rfl (by go_simp) rfl
    refine Obs.cons (fun u w hS hd => ?_) ?_
    · exact Gv.run (kv K) rfl (run_kload rfl rfl (o3.keep hS)) rfl
    refine Obs.cons (fun u w hS hd => ?_) ?_
    · exact Gv.run (.int .u64 (x : Int)) rfl (by go_simp) rfl
    refine Obs.cons (fun u w hS hd => ?_) ?_
    · exact Gv.run (.pointer (some ⟨g5, 2, none⟩)) rfl (by go_simp) rfl
    refine Obs.cons (fun u w hS hd => ?_) ?_
    · have d20 : u 20 = .pointer (some ⟨g5, 2, none⟩) := dep hd 13 rfl
      rw [d20]
      exact Gv.run (.int .i64 (c : Int)) rfl (by have hc := H5.out w hS; obtain ⟨c0, c1, c2⟩ := hc; go_simp) rfl
    refine Obs.cons (fun u w hS hd => ?_) ?_
    · have d18 : u 18 = kv K := dep hd 11 rfl
      have d19 : u 19 = .int .u64 (x : Int) := dep hd 12 rfl
      have d21 : u 21 = .int .i64 (c : Int) := dep hd 14 rfl
      rw [d18, d19, d21]
      refine Gv.call 49 #[kv K, .int .u64 (x : Int), .int .i64 (c : Int)] rfl (by go_simp) ((KC.out w).mono ?_)
      rintro e w' ⟨rfl, hb⟩
      exact ⟨_, rfl, rfl, hb⟩
    refine Obs.cons (fun u w hS hd => ?_) ?_
    · have d17 : u 17 = .int .u64 (rd : Int) := dep hd 10 rfl
      have d22 : u 22 = .int .u64 (rc : Int) := dep hd 15 rfl
      rw [d17, d22]
      have hx := E2
      exact Gv.run (.int .u64 (re : Int)) rfl (by go_simp) rfl
    exact Obs.nil
  intro u v1 hS hd
  have d23 : u 23 = .int .u64 (re : Int) := hd 16 (by decide)
  rw [d23]
  simp only [List.drop_succ_cons, List.drop_zero]
  go_wp2_with fail
  go_ret
  exact ⟨rfl, hc.trans (hS.mono hc.size)⟩
set_option maxHeartbeats 1600000 in
theorem shifted_gen {K : Kd} {x a b c ra rb rc rd re : Nat}
    (ka : ∀ w, Calls Tryd.prog 49 #[kv K, .int .u64 (x : Int), .int .i64 (a : Int)] w fun e w' => e = .returned (.int .u64 (ra : Int)) ∧ Below w.heap.size w w')
    (kb : ∀ w, Calls Tryd.prog 49 #[kv K, .int .u64 (x : Int), .int .i64 (b : Int)] w fun e w' => e = .returned (.int .u64 (rb : Int)) ∧ Below w.heap.size w w')
    (kc : ∀ w, Calls Tryd.prog 32 #[.int .u64 (x : Int), .int .i64 (c : Int)] w fun e w' => e = .returned (.int .u64 (rc : Int)) ∧ Below w.heap.size w w')
    (E1 : bits .xor .u64 (ra : Int) (rb : Int) = (rd : Int)) (E2 : bits .xor .u64 (rd : Int) (rc : Int) = (re : Int)) (w : World) :
    Calls Tryd.prog 48 #[kv K, .int .u64 (x : Int), tv a b c] w fun e w' => e = .returned (.int .u64 (re : Int)) ∧ Below w.heap.size w w' := by
  have KA := Lib.hid ka
  have KB := Lib.hid kb
  have KC := Lib.hid kc
  clear ka kb kc
  obtain ⟨v0, ev, o3, h5, hc⟩ := kt_start K a b c w
  have H5 := Lib.hid h5
  clear h5
  go_enter Tryd.func48, Tryd.ntmps48
  go_upto_region 1 with fail
  rw [← ev]
  obtain ⟨g3, eg3⟩ : ∃ g, g = w.heap.size := ⟨_, rfl⟩
  obtain ⟨g5, eg5⟩ : ∃ g, g = w.heap.size + 1 := ⟨_, rfl⟩
  rw [show (Value.pointer (some ⟨w.heap.size, 0, none⟩)) = .pointer (some ⟨g3, 0, none⟩) by rw [eg3], show (Value.pointer (some ⟨w.heap.size + 1, 0, none⟩)) = .pointer (some ⟨g5, 0, none⟩) by rw [eg5]]
  replace o3 : OK v0 w.heap.size g3 K := by rw [eg3]; exact o3
  rw [← eg5] at H5
  clear ev eg3 eg5
  refine wp_region_inv 16 [7, 8, 9, 10, 11, 12, 13, 14, 15, 16, 17, 18, 19, 20, 21, 22] [.val (kv K), .val (.int .u64 (x : Int)), .val (.pointer (some ⟨g5, 0, none⟩)), .val (.int .i64 (a : Int)), .val (.int .u64 (ra : Int)), .val (kv K), .val (.int .u64 (x : Int)), .val (.pointer (some ⟨g5, 1, none⟩)), .val (.int .i64 (b : Int)), .val (.int .u64 (rb : Int)), .val (.int .u64 (rd : Int)), .val (.int .u64 (x : Int)), .val (.pointer (some ⟨g5, 2, none⟩)), .val (.int .i64 (c : Int)), .val (.int .u64 (rc : Int)), .val (.int .u64 (re : Int))] (fun wz => Below v0.heap.size v0 wz) (by kernel_rfl) (by kernel_rfl) (fun wz wz' hz hb => hz.trans (hb.mono hz.size)) ((Below.refl _ _).drew) (fun u => by simp only [puts, List.foldl_cons, List.foldl_nil]; go_simp; exact rfl) ?_ ?_
  · simp only [List.take_succ_cons, List.take_zero]
    refine Obs.cons (fun u w hS hd => ?_) ?_
    · exact Gv.run (kv K) rfl (run_kload rfl rfl (o3.keep hS)) rfl
    refine Obs.cons (fun u w hS hd => ?_) ?_
    · exact Gv.run (.int .u64 (x : Int)) rfl (by go_simp) rfl
    refine Obs.cons (fun u w hS hd => ?_) ?_
    · exact Gv.run (.pointer (some ⟨g5, 0, none⟩)) rfl (by go_simp) rfl
    refine Obs.cons (fun u w hS hd => ?_) ?_
    · have d9 : u 9 = .pointer (some ⟨g5, 0, none⟩) := dep hd 2 rfl
      rw [d9]
      exact Gv.run (.int .i64 (a : Int)) rfl (by have hc := H5.out w hS; obtain ⟨c0, c1, c2⟩ := hc; go_simp) rfl
    refine Obs.cons (fun u w hS hd => ?_) ?_
    · have d7 : u 7 = kv K := dep hd 0 rfl
      have d8 : u 8 = .int .u64 (x : Int) := dep hd 1 rfl
      have d10 : u 10 = .int .i64 (a : Int) := dep hd 3 rfl
      rw [d7, d8, d10]
      refine Gv.call 49 #[kv K, .int .u64 (x : Int), .int .i64 (a : Int)] rfl (by go_simp) ((KA.out w).mono ?_)
      rintro e w' ⟨rfl, hb⟩
      exact ⟨_, rfl, rfl, hb⟩
    refine Obs.cons (fun u w hS hd => ?_) ?_
    · exact Gv.run (kv K) rfl (run_kload rfl rfl (o3.keep hS)) rfl
    refine Obs.cons (fun u w hS hd => ?_) ?_
    · exact Gv.run (.int .u64 (x : Int)) rfl (by go_simp) rfl
    refine Obs.cons (fun u w hS hd => ?_) ?_
    · exact Gv.run (.pointer (some ⟨g5, 1, none⟩)) rfl (by go_simp) rfl
    refine Obs.cons (fun u w hS hd => ?_) ?_
    · have d14 : u 14 = .pointer (some ⟨g5, 1, none⟩) := dep hd 7 rfl
      rw [d14]
      exact Gv.run (.int .i64 (b : Int)) rfl (by have hc := H5.out w hS; obtain ⟨c0, c1, c2⟩ := hc; go_simp) rfl
    refine Obs.cons (fun u w hS hd => ?_) ?_
    · have d12 : u 12 = kv K := dep hd 5 rfl
      have d13 : u 13 = .int .u64 (x : Int) := dep hd 6 rfl
      have d15 : u 15 = .int .i64 (b : Int) := dep hd 8 rfl
      rw [d12, d13, d15]
      refine Gv.call 49 #[kv K, .int .u64 (x : Int), .int .i64 (b : Int)] rfl (by go_simp) ((KB.out w).mono ?_)
      rintro e w' ⟨rfl, hb⟩
      exact ⟨_, rfl, rfl, hb⟩
    refine Obs.cons (fun u w hS hd => ?_) ?_
    · have d11 : u 11 = .int .u64 (ra : Int) := dep hd 4 rfl
      have d16 : u 16 = .int .u64 (rb : Int) := dep hd 9 rfl
      rw [d11, d16]
      have hx := E1
      exact Gv.run (.int .u64 (rd : Int)) rfl (by go_simp) rfl
    refine Obs.cons (fun u w hS hd => ?_) ?_
    · exact Gv.run (.int .u64 (x : Int)) rfl (by go_simp) rfl
    refine Obs.cons (fun u w hS hd => ?_) ?_
    · exact Gv.run (.pointer (some ⟨g5, 2, none⟩)) rfl (by go_simp) rfl
    refine Obs.cons (fun u w hS hd => ?_) ?_
    · have d19 : u 19 = .pointer (some ⟨g5, 2, none⟩) := dep hd 12 rfl
      rw [d19]
      exact Gv.run (.int .i64 (c : Int)) rfl (by have hc := H5.out w hS; obtain ⟨c0, c1, c2⟩ := hc; go_simp) rfl
    refine Obs.cons (fun u w hS hd => ?_) ?_
    · have d18 : u 18 = .int .u64 (x : Int) := dep hd 11 rfl
      have d20 : u 20 = .int .i64 (c : Int) := dep hd 13 rfl
      rw [d18, d20]
      refine Gv.call 32 #[.int .u64 (x : Int), .int .i64 (c : Int)] rfl (by go_simp) ((KC.out w).mono ?_)
      rintro e w' ⟨rfl, hb⟩
      exact ⟨_, rfl, rfl, hb⟩
    refine Obs.cons (fun u w hS hd => ?_) ?_
    · have d17 : u 17 = .int .u64 (rd : Int) := dep hd 10 rfl
      have d21 : u 21 = .int .u64 (rc : Int) := dep hd 14 rfl
      rw [d17, d21]
      have hx := E2
      exact Gv.run (.int .u64 (re : Int)) rfl (by go_simp) rfl
    exact Obs.nil
  intro u v1 hS hd
  have d22 : u 22 = .int .u64 (re : Int) := hd 15 (by decide)
  rw [d22]
  simp only [List.drop_succ_cons, List.drop_zero]
  go_wp2_with fail
  go_ret
  exact ⟨rfl, hc.trans (hS.mono hc.size)⟩
def turnedN (b x : Nat) (t : Nat × Nat × Nat) : Nat := (rotN b x t.1 ^^^ rotN b x t.2.1) ^^^ rotN b x t.2.2
def shiftedN (b x : Nat) (t : Nat × Nat × Nat) : Nat := (rotN b x t.1 ^^^ rotN b x t.2.1) ^^^ sh2 x t.2.2
theorem pow64 {b : Nat} (hb : b = 32 ∨ b = 64) : 2 ^ b ≤ 18446744073709551616 := by rcases hb with rfl | rfl <;> decide
theorem turned_any {K : Kd} {x b : Nat} {t : Nat × Nat × Nat} (hK : K.bits = b) (hb : b = 32 ∨ b = 64) (hx : x < 2 ^ b) (h1 : t.1 ≤ 1000) (h2 : t.2.1 ≤ 1000) (h3 : t.2.2 ≤ 1000) (w : World) :
    Calls Tryd.prog 40 #[kv K, .int .u64 (x : Int), tv t.1 t.2.1 t.2.2] w fun e w' => e = .returned (.int .u64 (turnedN b x t : Int)) ∧ Below w.heap.size w w' := by
  have l := fun n => Nat.lt_of_lt_of_le (rotN_lt (by omega) hx n) (pow64 hb)
  exact turned_gen (rd := rotN b x t.1 ^^^ rotN b x t.2.1) (re := turnedN b x t) (fun w => turn_any hK hb hx h1 w) (fun w => turn_any hK hb hx h2 w) (fun w => turn_any hK hb hx h3 w) (bits_xor_u64_nat _ _ (l _) (l _)) (bits_xor_u64_nat _ _ (Nat.xor_lt_two_pow (n := 64) (l _) (l _)) (l _)) w
theorem shifted_any {K : Kd} {x b : Nat} {t : Nat × Nat × Nat} (hK : K.bits = b) (hb : b = 32 ∨ b = 64) (hx : x < 2 ^ b) (h1 : t.1 ≤ 1000) (h2 : t.2.1 ≤ 1000) (h3 : t.2.2 ≤ 1000) (w : World) :
    Calls Tryd.prog 48 #[kv K, .int .u64 (x : Int), tv t.1 t.2.1 t.2.2] w fun e w' => e = .returned (.int .u64 (shiftedN b x t : Int)) ∧ Below w.heap.size w w' := by
  have l := fun n => Nat.lt_of_lt_of_le (rotN_lt (by omega) hx n) (pow64 hb)
  have hx64 := Nat.lt_of_lt_of_le hx (pow64 hb)
  have ls : sh2 x t.2.2 < 18446744073709551616 := Nat.lt_of_le_of_lt (sh2_le _ _) hx64
  exact shifted_gen (rd := rotN b x t.1 ^^^ rotN b x t.2.1) (re := shiftedN b x t) (fun w => turn_any hK hb hx h1 w) (fun w => turn_any hK hb hx h2 w) (fun w => (shift_any hx64 h3 w).mono fun e w' ⟨he, hw⟩ => ⟨he, by rw [hw]; exact Below.refl _ _⟩) (bits_xor_u64_nat _ _ (l _) (l _)) (bits_xor_u64_nat _ _ (Nat.xor_lt_two_pow (n := 64) (l _) (l _)) ls) w
theorem turnedN_lt {b x : Nat} (hb : 0 < b) (hx : x < 2 ^ b) (t : Nat × Nat × Nat) : turnedN b x t < 2 ^ b := Nat.xor_lt_two_pow (Nat.xor_lt_two_pow (rotN_lt hb hx _) (rotN_lt hb hx _)) (rotN_lt hb hx _)
theorem shiftedN_lt {b x : Nat} (hb : 0 < b) (hx : x < 2 ^ b) (t : Nat × Nat × Nat) : shiftedN b x t < 2 ^ b := Nat.xor_lt_two_pow (Nat.xor_lt_two_pow (rotN_lt hb hx _) (rotN_lt hb hx _)) (Nat.lt_of_le_of_lt (sh2_le _ _) hx)
end Go.Proofs.YtbofehdihflkiaaDoor
