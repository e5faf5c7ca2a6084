import Derived.Test.YtebhefgfebghkaaDoorL8
namespace Go.Proofs.YtebhefgfebghkaaDoor
open Go Go.RowKit
theorem nth_numV : ∀ (xs : List UInt8) (k : Nat), k < xs.length → nth xs k = numV xs / 2 ^ (8 * k) % 256
  | [], k, h => absurd h (by simp)
  | c :: l, 0, _ => by
    have := UInt8.toNat_lt c
    simp only [nth, numV, Nat.mul_zero, Nat.pow_zero, Nat.div_one, List.getElem?_cons_zero, Option.getD_some]
    omega
  | c :: l, k + 1, h => by
    have := UInt8.toNat_lt c
    have ih := nth_numV l k (by simpa using h)
    have e : nth (c :: l) (k + 1) = nth l k := by simp [nth]
    rw [e, ih, numV, show 8 * (k + 1) = 8 + 8 * k from by omega, Nat.pow_add, ← Nat.div_div_eq_div_mul, show (2 : Nat) ^ 8 = 256 from rfl]
    rw [show (c.toNat + 256 * numV l) / 256 = numV l from by omega]
theorem bytes_numV (xs : List UInt8) : bytesL (numV xs) xs.length = xs := by
  refine nth_ext (gen_length _ _) fun k hk => ?_
  rw [bytesL, gen_length] at hk
  rw [bytesL, nth_gen hk, nth_numV xs k hk]
  simp only [numd, UInt8.toNat_ofNat']
  exact Nat.mod_mod _ _
theorem numV_small (xs : List UInt8) : numV xs / 2 ^ (8 * xs.length) = 0 := Nat.div_eq_of_lt (numV_lt xs)
theorem bytes_back {n size : Nat} (w : World) (l : List UInt8) (hs : size ≤ 8) (hr : n / 2 ^ (8 * size) = 0) (hl : bytesL n size = l) (i : Int) (hi : i = (size : Int)) :
    Calls Tryd.prog 28 #[.int .u64 (n : Int), .int .i64 i] w fun e w' => ∃ A' c', e = .returned (.tuple #[.slice A' l.length c', .int .i64 0]) ∧ Own w' w.heap.size 5 A' c' l ∧ Below w.heap.size w w' := by
  subst hi
  subst hl
  refine (bytes_good w n size hs hr).mono fun e w' ⟨A, c, he, ho, hb⟩ => ⟨A, c, ?_, ho, hb⟩
  rw [he, bytesL, gen_length]
theorem number_is {A : Option Addr} {c B : Nat} {xs : List UInt8} {n : Nat} (w : World) (h1 : Rd w B A c xs) (hl : xs.length ≤ 8) (hn : numV xs = n) :
    Calls Tryd.prog 26 #[.slice A xs.length c] w fun e w' => e = .returned (.tuple #[.int .u64 (n : Int), .int .i64 0]) ∧ w = w' := by
  subst hn
  exact number_good w h1 hl
set_option maxHeartbeats 1000000 in
theorem octetOnce_walk {A1 : Option Addr} {c1 : Nat} {xs : List UInt8} {n : Int} (w : World) (hT : Tab w) (h1 : Rd w w.heap.size A1 c1 xs)
    (l2 : (Lit.int .u64 n).wf = true) (l1 : xs.length ≤ 140737488351232) :
    Calls Tryd.prog 11 #[.int .u64 n, .slice A1 xs.length c1] w fun e w' => e = .returned (.bool true) ∧ Below w.heap.size w w' := by
  obtain ⟨m, rfl, hm⟩ := wf_u64 l2
  clear l2
  have hd : m / 2 ^ (8 * 8) = 0 := Nat.div_eq_of_lt hm
  have hv : numV (bytesL m 8) = m := by rw [numV_bytes]; exact Nat.mod_eq_of_lt hm
  have hl8 : (bytesL m 8).length = 8 := gen_length _ _
  have HD := Lib.hid hd
  have HV := Lib.hid hv
  have H8 := Lib.hid hl8
  clear hm hd hv hl8
  by_cases h8 : xs.length ≤ 8
  · have hb := bytes_numV xs
    have HB := Lib.hid hb
    clear hb
    have K := fun (W : World) (hb : Below w.heap.size w W) => run_str (P := Tryd.prog) W 22 5 Tryd.underlying22 Tryd.underlying5 Tryd.underlying9 (h1.keep hb)
    have KH := Lib.hid K
    clear K
    go_enter Tryd.func11, Tryd.ntmps11
    go_wp2_with fail
    refine (bytes_back _ (bytesL m 8) (by decide) HD.out rfl 8 rfl).mono ?_
    rintro e w1 ⟨B1, d1, rfl, o1, b1⟩
    go_wp2_with fail
    refine (number_is _ o1.rd (by rw [H8.out]; decide) HV.out).mono ?_
    rintro e w1 ⟨rfl, rfl⟩
    go_wp2_with fail
    refine (own_any _ (h1.next b1) (Nat.le_refl _) (by omega)).mono ?_
    rintro e w2 ⟨B2, d2, rfl, o2, b2⟩
    have b2' := Below.next b1 b2
    go_wp2_with fail
    refine (number_good _ o2.rd h8).mono ?_
    rintro e w2 ⟨rfl, rfl⟩
    go_wp2_with fail
    refine (bytes_back _ xs h8 (numV_small xs) HB.out _ rfl).mono ?_
    rintro e w3 ⟨B3, d3, rfl, o3, b3⟩
    have b3' := Below.next b2' b3
    have k1 := run_str (P := Tryd.prog) w3 22 5 Tryd.underlying22 Tryd.underlying5 Tryd.underlying9 o3.rd
    have k2 := KH.out w3 b3'
    go_wp2_with fail
    refine (awake_any _ (hT.keep b3' hT.pos)).mono ?_
    rintro e w4 ⟨rfl, b4⟩
    go_wp2_with fail
    go_ret
    exact ⟨rfl, Below.next b3' b4⟩
  · have t1 : decide ((8 : Int) < (xs.length : Int)) = true := by simp; omega
    go_enter Tryd.func11, Tryd.ntmps11
    go_wp2_with fail
    refine (bytes_back _ (bytesL m 8) (by decide) HD.out rfl 8 rfl).mono ?_
    rintro e w1 ⟨B1, d1, rfl, o1, b1⟩
    go_wp2_with fail
    refine (number_is _ o1.rd (by rw [H8.out]; decide) HV.out).mono ?_
    rintro e w1 ⟨rfl, rfl⟩
    go_wp2_with fail
    refine (own_any _ (h1.next b1) (Nat.le_refl _) (by omega)).mono ?_
    rintro e w2 ⟨B2, d2, rfl, o2, b2⟩
    have b2' := Below.next b1 b2
    go_wp2_with fail
    refine (number_long _ (by omega)).mono ?_
    rintro e w2 ⟨rfl, rfl⟩
    go_wp2_with fail
    refine (awake_any _ (hT.keep b2' hT.pos)).mono ?_
    rintro e w4 ⟨rfl, b4⟩
    go_wp2_with fail
    go_ret
    exact ⟨rfl, Below.next b2' b4⟩
end Go.Proofs.YtebhefgfebghkaaDoor
