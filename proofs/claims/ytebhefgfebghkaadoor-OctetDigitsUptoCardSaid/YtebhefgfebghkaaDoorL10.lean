import Derived.Test.YtebhefgfebghkaaDoorL4
namespace Go.Proofs.YtebhefgfebghkaaDoor
open Go Go.RowKit
theorem nth_xor {xs ys : List UInt8} {k : Nat} (h : k < xs.length) : nth (xorL xs ys) k = nth xs k ^^^ nth ys k := by
  rw [xorL, nth_gen h, xorb_toNat]
theorem xor_twice {xs ys : List UInt8} : xorL (xorL xs ys) ys = xs := by
  refine nth_ext (by rw [xorL_length, xorL_length]) fun k hk => ?_
  rw [xorL_length, xorL_length] at hk
  rw [nth_xor (by rw [xorL_length]; exact hk), nth_xor hk, Nat.xor_assoc, Nat.xor_self, Nat.xor_zero]
theorem xor_self_nth {xs : List UInt8} {k : Nat} (h : k < xs.length) : nth (xorL xs xs) k = 0 := by
  rw [nth_xor h, Nat.xor_self]
theorem xor_to {A1 A2 : Option Addr} {c1 c2 B1 B2 n m : Nat} {xs ys : List UInt8} (l : List UInt8) (w : World) (h1 : Rd w B1 A1 c1 xs) (h2 : Rd w B2 A2 c2 ys) (hB1 : B1 ≤ w.heap.size) (hB2 : B2 ≤ w.heap.size) (hl : xs.length ≤ 140737488355328)
    (hn : xs.length = ys.length) (e1 : n = xs.length) (e2 : m = ys.length) (e3 : xorL xs ys = l) :
    Calls Tryd.prog 16 #[.slice A1 n c1, .slice A2 m c2] w fun e w' => ∃ A' c', e = .returned (.tuple #[.slice A' n c', .int .i64 0]) ∧ Own w' w.heap.size 5 A' c' l ∧ Below w.heap.size w w' := by
  subst e1
  subst e2
  subst e3
  exact xor_good w h1 h2 hB1 hB2 hl hn

set_option maxHeartbeats 1000000 in
theorem octetTwice_walk {A1 A2 : Option Addr} {c1 c2 : Nat} {xs ys : List UInt8} (w : World) (hT : Tab w) (h1 : Rd w w.heap.size A1 c1 xs) (h2 : Rd w w.heap.size A2 c2 ys)
    (l1 : xs.length ≤ 140737488351232) (l2 : ys.length ≤ 140737488351232) :
    Calls Tryd.prog 10 #[.slice A1 xs.length c1, .slice A2 ys.length c2] w fun e w' => e = .returned (.bool true) ∧ Below w.heap.size w w' := by
  by_cases hn : xs.length = ys.length
  · have HN := Lib.hid hn
    clear hn
    go_enter Tryd.func10, Tryd.ntmps10
    go_wp2_with fail
    refine (own_any _ h1 (Nat.le_refl _) (by omega)).mono ?_
    rintro e w1 ⟨B1, d1, rfl, o1, b1⟩
    go_wp2_with fail
    refine (own_any _ (h2.next b1) (Nat.le_refl _) (by omega)).mono ?_
    rintro e w2 ⟨B2, d2, rfl, o2, b2⟩
    have b2' := Below.next b1 b2
    go_wp2_with fail
    refine (xor_good _ (o1.rd' b2) o2.rd (Nat.le_refl _) (Nat.le_refl _) (by omega) HN.out).mono ?_
    rintro e w3 ⟨B3, d3, rfl, o3, b3⟩
    have b3' := Below.next b2' b3
    go_wp2_with fail
    refine (own_any _ (h2.next b3') (Nat.le_refl _) (by omega)).mono ?_
    rintro e w4 ⟨B4, d4, rfl, o4, b4⟩
    have b4' := Below.next b3' b4
    go_wp2_with fail
    refine (xor_to xs _ (o3.rd' b4) o4.rd (Nat.le_refl _) (Nat.le_refl _) (by rw [xorL_length]; omega) ((xorL_length _ _).trans HN.out) (xorL_length _ _).symm rfl xor_twice).mono ?_
    rintro e w5 ⟨B5, d5, rfl, o5, b5⟩
    have b5' := Below.next b4' b5
    go_wp2_with fail
    refine (own_any _ (h1.next b5') (Nat.le_refl _) (by omega)).mono ?_
    rintro e w6 ⟨B6, d6, rfl, o6, b6⟩
    have b6' := Below.next b5' b6
    go_wp2_with fail
    refine (own_any _ (h1.next b6') (Nat.le_refl _) (by omega)).mono ?_
    rintro e w7 ⟨B7, d7, rfl, o7, b7⟩
    have b7' := Below.next b6' b7
    go_wp2_with fail
    refine (xor_good _ (o6.rd' b7) o7.rd (Nat.le_refl _) (Nat.le_refl _) (by omega) rfl).mono ?_
    rintro e w8 ⟨B8, d8, rfl, o8, b8⟩
    have b8' := Below.next b7' b8
    have k1 := run_str (P := Tryd.prog) w8 22 5 Tryd.underlying22 Tryd.underlying5 Tryd.underlying9 (o5.rd' (Below.next (Below.next b6 b7) b8))
    have k2 := run_str (P := Tryd.prog) w8 22 5 Tryd.underlying22 Tryd.underlying5 Tryd.underlying9 (h1.next b8')
    have K1 := Lib.hid k1
    have K2 := Lib.hid k2
    clear k1 k2
    go_wp2_with fail
    go_loop [53] (fun i => ∃ k : Nat, k ≤ xs.length ∧ i = .int .i64 k) (fun i => xs.length - (intOf i).toNat)
    case atStart => exact ⟨0, Nat.zero_le _, rfl⟩
    case round =>
      obtain ⟨k, hk, rfl⟩ := hrel
      by_cases hlt : k < xs.length
      · have g1 : (k : Int) < (xs.length : Int) := by omega
        obtain ⟨g, o, rfl, _, cc⟩ := o8.rd.at_ (k := k) (by rw [xorL_length]; exact hlt)
        rw [xor_self_nth hlt] at cc
        go_wp2_with fail
        go_round
        case rel => exact ⟨k + 1, by omega, by go_num⟩
        case measure => simp [intOf]; omega
      · have g1 : ¬ (k : Int) < (xs.length : Int) := by omega
        have q1 := K1.out
        have q2 := K2.out
        go_wp2_with fail
        refine (awake_any _ (hT.keep b8' hT.pos)).mono ?_
        rintro e w9 ⟨rfl, b9⟩
        go_wp2_with fail
        go_ret
        exact ⟨rfl, Below.next b8' b9⟩
  · have t0 : ((xs.length : Int) != (ys.length : Int)) = true := by simp; omega
    go_enter Tryd.func10, Tryd.ntmps10
    go_wp2_with fail
    refine (own_any _ h1 (Nat.le_refl _) (by omega)).mono ?_
    rintro e w1 ⟨B1, d1, rfl, o1, b1⟩
    go_wp2_with fail
    refine (own_any _ (h2.next b1) (Nat.le_refl _) (by omega)).mono ?_
    rintro e w2 ⟨B2, d2, rfl, o2, b2⟩
    have b2' := Below.next b1 b2
    go_wp2_with fail
    refine (xor_bad _ hn).mono ?_
    rintro e w2 ⟨rfl, rfl⟩
    go_wp2_with fail
    refine (awake_any _ (hT.keep b2' hT.pos)).mono ?_
    rintro e w7 ⟨rfl, b7⟩
    go_wp2_with fail
    go_ret
    exact ⟨rfl, Below.next b2' b7⟩
end Go.Proofs.YtebhefgfebghkaaDoor
