import Derived.Test.YtebhefgfebghkaaDoorX8
import Derived.Test.YtebhefgfebghkaaDoorX6
namespace Go.Proofs.YtebhefgfebghkaaDoor
open Go Go.RowKit
theorem wf_u64 {n : Int} (h : (Lit.int .u64 n).wf = true) : ∃ m : Nat, n = (m : Int) ∧ m < 18446744073709551616 := by
  have h' : 0 ≤ n ∧ n ≤ 18446744073709551615 := by simpa [Lit.wf, IntKind.min, IntKind.max, IntKind.signed, IntKind.bits] using h
  obtain ⟨m, rfl⟩ := Int.eq_ofNat_of_zero_le h'.1
  exact ⟨m, rfl, by omega⟩
set_option maxHeartbeats 800000 in
theorem octetNumbers_walk {A1 : Option Addr} {c1 : Nat} {xs : List UInt8} {n size : Int} (w : World) (hT : Tab w) (h1 : Rd w w.heap.size A1 c1 xs)
    (l1 : xs.length ≤ 140737488351232) (l2 : (Lit.int .u64 n).wf = true) (_ : (Lit.int .i64 size).wf = true) :
    Calls Tryd.prog 8 #[.slice A1 xs.length c1, .int .u64 n, .int .i64 size] w fun e w' => e = .returned (.bool true) ∧ Below w.heap.size w w' := by
  obtain ⟨m, rfl, hm⟩ := wf_u64 l2
  clear l2
  have HM := Lib.hid hm
  clear hm
  go_enter Tryd.func8, Tryd.ntmps8
  go_wp2_with fail
  refine (own_any _ h1 (Nat.le_refl _) (by omega)).mono ?_
  rintro e w1 ⟨B1, d1, rfl, o1, b1⟩
  go_wp2_with fail
  refine (number_any _ o1.rd).mono ?_
  rintro e w1 ⟨rfl, rfl⟩
  go_wp2_with fail
  refine (rnumber_any _ (h1.next b1)).mono ?_
  rintro e w1 ⟨rfl, rfl⟩
  go_wp2_with fail
  refine (bytes_any _ _ _).mono ?_
  rintro e w2 ⟨A2, d2, rfl, r2, b2⟩
  have b2' := Below.next b1 b2
  go_wp2_with fail
  refine (rbytes_any _ _ HM.out _).mono ?_
  rintro e w3 ⟨A3, d3, rfl, r3, b3⟩
  have b3' := Below.next b2' b3
  go_wp2_with fail
  refine (same_yes _ (r2.next b3) r3 rfl rfl).mono ?_
  rintro e w3 ⟨rfl, rfl⟩
  go_wp2_with fail
  refine (awake_any _ (hT.keep b3' hT.pos)).mono ?_
  rintro e w4 ⟨rfl, b4⟩
  go_wp2_with fail
  go_ret
  exact ⟨rfl, Below.next b3' b4⟩
end Go.Proofs.YtebhefgfebghkaaDoor
