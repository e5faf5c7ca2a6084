import Derived.Test.YtebhefgfebghkaaDoorX5
import Derived.Deep.RegionHeld3
namespace Go.Proofs.YtebhefgfebghkaaDoor
open Go Go.RowKit
theorem gen_hex_succ (xs : List UInt8) (k : Nat) : gen (hexd xs) (2 * (k + 1)) = gen (hexd xs) (2 * k) ++ [hexd xs (2 * k), hexd xs (2 * k + 1)] := by
  rw [show 2 * (k + 1) = 2 * k + 1 + 1 from by omega, gen_succ, gen_succ, List.append_assoc]; rfl
theorem index_digits (w : World) (n : Nat) (h : n < 16) {i : Int} (hi : i = (n : Int)) : (Instr.index 9 (.string (⟨#[48, 49, 50, 51, 52, 53, 54, 55, 56, 57, 97, 98, 99, 100, 101, 102]⟩ : ByteArray)) (.int .u8 i)).run Tryd.prog w = .ok (.int .u8 (dig n : Int)) w := by
  subst hi
  have hc : (0 : Int) ≤ (n : Int) ∧ (n : Int) < (((⟨#[48, 49, 50, 51, 52, 53, 54, 55, 56, 57, 97, 98, 99, 100, 101, 102]⟩ : ByteArray)).size : Int) := ⟨by omega, by show (n : Int) < ((16 : Nat) : Int); omega⟩
  rw [run_index_string (P := Tryd.prog) w 9 (⟨#[48, 49, 50, 51, 52, 53, 54, 55, 56, 57, 97, 98, 99, 100, 101, 102]⟩ : ByteArray) .u8 n Tryd.underlying9, dif_pos hc]
  exact congrArg (fun z => Result.ok (Value.int .u8 z) w) (allDig n h)
theorem index_high (w : World) (xs : List UInt8) (k : Nat) : (Instr.index 9 (.string (⟨#[48, 49, 50, 51, 52, 53, 54, 55, 56, 57, 97, 98, 99, 100, 101, 102]⟩ : ByteArray)) (.int .u8 ((nth xs k : Int) / 16))).run Tryd.prog w = .ok (.int .u8 (dig (nth xs k / 16) : Int)) w :=
  index_digits w _ (by have := nth_lt xs k; omega) (by omega)
theorem index_low (w : World) (xs : List UInt8) (k : Nat) : (Instr.index 9 (.string (⟨#[48, 49, 50, 51, 52, 53, 54, 55, 56, 57, 97, 98, 99, 100, 101, 102]⟩ : ByteArray)) (.int .u8 ((nth xs k : Int) % 16))).run Tryd.prog w = .ok (.int .u8 (dig (nth xs k % 16) : Int)) w :=
  index_digits w _ (by have := nth_lt xs k; omega) (by omega)
attribute [local go_sem ↓] index_high index_low
set_option maxRecDepth 20000 in
set_option maxHeartbeats 800000 in
theorem rhex_any {A : Option Addr} {c B : Nat} {xs : List UInt8} (w : World) (h1 : Rd w B A c xs) (hB : B ≤ w.heap.size) (hl : xs.length ≤ 70368744177664) :
    Calls Tryd.prog 25 #[.slice A xs.length c] w fun e w' => e = .returned (.string ⟨(hexL xs).toArray⟩) ∧ Below w.heap.size w w' := by
  obtain ⟨i0, hi, hz0, hz1, hz2⟩ := info_parts infoByte
  go_enter Tryd.func25, Tryd.ntmps25
  go_wp2
  go_loopw [3, 4] (fun v i wr => ∃ k : Nat, k ≤ xs.length ∧ i = .int .i64 k ∧ (∃ A c, v = .slice A (2 * k) c ∧ Own wr w.heap.size 5 A c (gen (hexd xs) (2 * k))) ∧ Below w.heap.size w wr)
    (fun _ i _ => xs.length - (intOf i).toNat)
  case atStart => exact ⟨0, Nat.zero_le _, rfl, ⟨none, 0, rfl, World.ownsRow_nil _ _ _ _⟩, Below.refl _ _⟩
  case round =>
    obtain ⟨k, hk, rfl, ⟨A', c', rfl, ho⟩, hb⟩ := hrel
    by_cases hlt : k < xs.length
    · have g1 : (k : Int) < (xs.length : Int) := by omega
      obtain ⟨b1, o1, rfl, hb1, cc1⟩ := (h1.mono hB).at_ hlt
      have c1' : wr.cell? ⟨b1, o1 + k, none⟩ = some (.int .u8 (nth xs k : Int)) := (hb.cell (p := ⟨b1, o1 + k, none⟩) hb1).trans cc1
      clear cc1
      have nl := nth_lt xs k
      have g2 : nth xs k / 16 < 16 := by omega
      have g3 : nth xs k % 16 < 16 := by omega
      have g4 : (nth xs k : Int) / 16 < 16 := by omega
      have g5 : (nth xs k : Int) % 16 < 16 := by omega
      have g6 : (0 : Int) ≤ (nth xs k : Int) / 16 := by omega
      have g7 : (0 : Int) ≤ (nth xs k : Int) % 16 := by omega
      have hv : (#[Value.int .u8 (dig (nth xs k / 16) : Int), Value.int .u8 (dig (nth xs k % 16) : Int)] : Array Value).toList = [hexd xs (2 * k), hexd xs (2 * k + 1)].map bv := by
        simp only [List.map_cons, List.map_nil, bv, hexd_even, hexd_odd]
      have HV := Lib.hid hv
      have w1 : (nth xs k : Int).tdiv 16 = (nth xs k : Int) / 16 := Int.tdiv_eq_ediv_of_nonneg (by omega)
      have w2 : (nth xs k : Int).tmod 16 = (nth xs k : Int) % 16 := Int.tmod_eq_emod_of_nonneg (by omega)
      have w3 : IntKind.u8.wrap ((nth xs k : Int) / 16) = (nth xs k : Int) / 16 := by rw [IntKind.wrap_u8]; omega
      have w4 : IntKind.u8.wrap ((nth xs k : Int) % 16) = (nth xs k : Int) % 16 := by rw [IntKind.wrap_u8]; omega
      clear hv
      go_wp2_with fail
      go_region_held3 (fun w' => w'.cell? ⟨b1, o1 + k, none⟩ = some (.int .u8 (nth xs k : Int)))
        (first | go_keep | exact (hb'.cell (p := ⟨b1, o1 + k, none⟩) hb1).trans c1')
        (first | (refine step_appL _ (by rfl) _ _ _ (by rfl) w.heap.size 5 i0 _ Tryd.underlying22 hi hz0 hz1 hz2 (by rfl) (by rfl) (gen_length _ _).symm (ho.keep ((Below.refl _ _).drew)) [hexd xs (2 * k), hexd xs (2 * k + 1)] (m := 2) (by rfl) (by rfl) HV.out (by omega) hb.size ?_; intro A2 c2 w' ho' hb'))
      all_goals
        go_wp2
        go_roundw
        case rel => exact ⟨k + 1, by omega, by go_num, ⟨A2, c2, by go_num, by rw [gen_hex_succ]; exact ho'⟩, hb.drew.trans hb'⟩
        case measure => simp [intOf]; omega
    · have hk' : k = xs.length := by omega
      subst hk'
      have hc := run_str (P := Tryd.prog) wr 22 5 Tryd.underlying22 Tryd.underlying5 Tryd.underlying9 ho.rd
      rw [gen_length] at hc
      go_wp2
      go_ret
      exact ⟨rfl, hb⟩
end Go.Proofs.YtebhefgfebghkaaDoor
