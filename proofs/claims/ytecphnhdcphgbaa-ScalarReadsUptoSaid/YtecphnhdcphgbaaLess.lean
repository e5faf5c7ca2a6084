import Derived.Test.YtecphnhdcphgbaaSum
namespace Go.Proofs.Ytecphnhdcphgbaa
open Go Go.RowKit
theorem top_step (x s : Nat) : x / 256 ^ s = 256 * (x / 256 ^ (s + 1)) + by8 x s := by
  unfold by8 dgt
  rw [Nat.pow_succ, ← Nat.div_div_eq_div_mul]
  omega
theorem top_lt {x y s : Nat} (h : x / 256 ^ (s + 1) = y / 256 ^ (s + 1)) (hd : by8 x s < by8 y s) : x < y := by
  refine Nat.lt_of_not_le fun hle => ?_
  have h1 := Nat.div_le_div_right (c := 256 ^ s) hle
  rw [top_step, top_step x, h] at h1
  omega
theorem less_any {A A' : Option Addr} {B c c' n n' x y : Nat} (w : World) (h : Dig w B A c n x) (h' : Dig w B A' c' n' y) (hn : n ≤ 1000) (hn' : n' ≤ 1000) :
    Calls Try.prog 38 #[.slice A n c, .slice A' n' c'] w fun e w' => e = .returned (.bool (decide (x < y))) ∧ w' = w := by
  obtain ⟨N, hN⟩ : ∃ N, N = max n n' := ⟨_, rfl⟩
  have hmax : (if n < n' then (n' : Int) else (n : Int)) = (N : Int) := by split <;> omega
  have hxN : x < 256 ^ (N + 1) := Nat.lt_of_lt_of_le h.lt (Nat.pow_le_pow_right (by decide) (by omega))
  have hyN : y < 256 ^ (N + 1) := Nat.lt_of_lt_of_le h'.lt (Nat.pow_le_pow_right (by decide) (by omega))
  have hNb : N ≤ 1000 := by omega
  clear hN
  have ha1 := Lib.hid h
  have ha2 := Lib.hid h'
  clear h h'
  go_enter Try.func38, Try.ntmps38
  go_wp2_with fail
  go_loop [5] (fun i => ∃ r : Nat, r ≤ N + 1 ∧ i = .int .i64 ((r : Int) - 1) ∧ x / 256 ^ r = y / 256 ^ r)
    (fun i => (intOf i + 1).toNat)
  case atStart => exact ⟨N + 1, Nat.le_refl _, by congr 1; omega, by rw [Nat.div_eq_of_lt hxN, Nat.div_eq_of_lt hyN]⟩
  case round =>
    obtain ⟨r, hr, rfl, he⟩ := hrel
    by_cases h0 : r = 0
    · subst h0
      have hxy : x = y := by simpa using he
      have hd : decide (x < y) = false := by simp; omega
      have HX := Lib.hid hd
      clear hd he hxy
      go_wp2_with fail
      go_ret
      exact ⟨by rw [HX.out]; rfl, rfl⟩
    · obtain ⟨s, rfl⟩ : ∃ s, r = s + 1 := ⟨r - 1, by omega⟩
      have gs : ((s + 1 : Nat) : Int) - 1 = (s : Int) := by omega
      rw [gs]
      have g0 : (0 : Int) ≤ (s : Int) := by omega
      have gw : IntKind.i64.wrap ((s : Int) - 1) = (s : Int) - 1 := by rw [IntKind.wrap_i64]; omega
      have HE := Lib.hid he
      clear he
      rcases Nat.lt_trichotomy (by8 x s) (by8 y s) with hd | hd | hd
      · have h1 : ((by8 x s : Int) != (by8 y s : Int)) = true := by simp; omega
        have h2 : (by8 x s : Int) < (by8 y s : Int) := by omega
        have hxy : decide (x < y) = true := decide_eq_true (top_lt HE.out hd)
        have HX := Lib.hid hxy
        clear hd hxy
        go_wp2_with fail
        go_at_call 43
        refine (at_any _ ha1.out s).mono ?_
        rintro e w' ⟨rfl, rfl⟩
        go_wp2_with fail
        go_at_call 43
        refine (at_any _ ha2.out s).mono ?_
        rintro e w' ⟨rfl, rfl⟩
        go_wp2_with fail
        go_at_call 43
        refine (at_any _ ha1.out s).mono ?_
        rintro e w' ⟨rfl, rfl⟩
        go_wp2_with fail
        go_at_call 43
        refine (at_any _ ha2.out s).mono ?_
        rintro e w' ⟨rfl, rfl⟩
        go_wp2_with fail
        go_ret
        exact ⟨by rw [HX.out]; rfl, rfl⟩
      · have h1 : ((by8 x s : Int) != (by8 y s : Int)) = false := by simp; omega
        have hnext : x / 256 ^ s = y / 256 ^ s := by rw [top_step, top_step y, HE.out, hd]
        have HN := Lib.hid hnext
        clear hd hnext
        go_wp2_with fail
        go_at_call 43
        refine (at_any _ ha1.out s).mono ?_
        rintro e w' ⟨rfl, rfl⟩
        go_wp2_with fail
        go_at_call 43
        refine (at_any _ ha2.out s).mono ?_
        rintro e w' ⟨rfl, rfl⟩
        go_wp2_with fail
        go_round
        case rel => exact ⟨s, by omega, by go_num, HN.out⟩
        case measure => simp [intOf]
      · have h1 : ((by8 x s : Int) != (by8 y s : Int)) = true := by simp; omega
        have h2 : ¬ (by8 x s : Int) < (by8 y s : Int) := by omega
        have hxy : decide (x < y) = false := decide_eq_false (by have := top_lt HE.out.symm hd; omega)
        have HX := Lib.hid hxy
        have hdd : decide (by8 x s < by8 y s) = false := decide_eq_false (by omega)
        have HDD := Lib.hid hdd
        clear hdd
        clear hd hxy
        go_wp2_with fail
        go_at_call 43
        refine (at_any _ ha1.out s).mono ?_
        rintro e w' ⟨rfl, rfl⟩
        go_wp2_with fail
        go_at_call 43
        refine (at_any _ ha2.out s).mono ?_
        rintro e w' ⟨rfl, rfl⟩
        go_wp2_with fail
        go_at_call 43
        refine (at_any _ ha1.out s).mono ?_
        rintro e w' ⟨rfl, rfl⟩
        go_wp2_with fail
        go_at_call 43
        refine (at_any _ ha2.out s).mono ?_
        rintro e w' ⟨rfl, rfl⟩
        go_wp2_with fail
        go_ret
        exact ⟨by rw [HX.out, HDD.out]; rfl, rfl⟩
end Go.Proofs.Ytecphnhdcphgbaa
