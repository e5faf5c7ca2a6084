import Derived.Test.YtebhefgfebghkaaDoorX6
import Derived.Test.YtebhefgfebghkaaDoorL5
namespace Go.Proofs.YtebhefgfebghkaaDoor
open Go Go.RowKit
theorem runhex_yes {w : World} {s : ByteArray} (hs : s.size ≤ 140737488355328) {l : List UInt8} (hb : unhexB s.data.toList = true) (hl : unhL s.data.toList = l) :
    Calls Tryd.prog 23 #[.string s] w fun e w' => ∃ A' c', e = .returned (.tuple #[.slice A' l.length c', .int .i64 0]) ∧ Own w' w.heap.size 5 A' c' l ∧ Below w.heap.size w w' := by
  refine (runhex_any w s hs).mono fun e w' ⟨h1, h2⟩ => ?_
  rcases h2 with ⟨_, A', c', he, ho⟩ | ⟨h, _⟩
  · rw [hl] at ho
    have e1 : s.data.toList.length / 2 = l.length := by rw [← hl]; exact (gen_length _ _).symm
    rw [e1] at he
    exact ⟨A', c', he, ho, h1⟩
  · rw [hb] at h; cases h
theorem runhex_no {w : World} {s : ByteArray} (hs : s.size ≤ 140737488355328) (hb : unhexB s.data.toList = false) :
    Calls Tryd.prog 23 #[.string s] w fun e w' => e = .returned (.tuple #[.slice none 0 0, .int .i64 5]) ∧ Below w.heap.size w w' := by
  refine (runhex_any w s hs).mono fun e w' ⟨h1, h2⟩ => ?_
  rcases h2 with ⟨h, _⟩ | ⟨_, he⟩
  · rw [hb] at h; cases h
  · exact ⟨he, h1⟩
set_option maxHeartbeats 1000000 in
theorem octetDigits_walk {A1 : Option Addr} {c1 : Nat} {xs : List UInt8} {s : ByteArray} (w : World) (hT : Tab w) (h1 : Rd w w.heap.size A1 c1 xs)
    (l1 : xs.length ≤ 70368744177664) (l2 : s.size ≤ 140737488351232) :
    Calls Tryd.prog 7 #[.slice A1 xs.length c1, .string s] w fun e w' => e = .returned (.bool true) ∧ Below w.heap.size w w' := by
  by_cases hb : unhexB s.data.toList = true
  · have HB := Lib.hid hb
    clear hb
    go_enter Tryd.func7, Tryd.ntmps7
    go_wp2_with fail
    refine (unhex_yes (l := unhL s.data.toList) (by omega) HB.out rfl).mono ?_
    rintro e w1 ⟨B1, d1, rfl, o1, b1⟩
    go_wp2_with fail
    refine (runhex_yes (l := unhL s.data.toList) (by omega) HB.out rfl).mono ?_
    rintro e w2 ⟨B2, d2, rfl, o2, b2⟩
    have b2' := Below.next b1 b2
    go_wp2_with fail
    refine (own_any _ (h1.next b2') (Nat.le_refl _) (by omega)).mono ?_
    rintro e w3 ⟨B3, d3, rfl, o3, b3⟩
    have b3' := Below.next b2' b3
    go_wp2_with fail
    refine (hex_any _ o3.rd (Nat.le_refl _) (hT.keep b3' hT.pos) (by omega)).mono ?_
    rintro e w4 ⟨rfl, b4⟩
    have b4' := Below.next b3' b4
    go_wp2_with fail
    refine (rhex_any _ (h1.next b4') (Nat.le_refl _) (by omega)).mono ?_
    rintro e w5 ⟨rfl, b5⟩
    have b5' := Below.next b4' b5
    go_wp2_with fail
    refine (same_yes _ (o1.rd' (Below.next (Below.next (Below.next b2 b3) b4) b5)) (o2.rd' (Below.next (Below.next b3 b4) b5)) rfl rfl).mono ?_
    rintro e w5 ⟨rfl, rfl⟩
    go_wp2_with fail
    refine (awake_any _ (hT.keep b5' hT.pos)).mono ?_
    rintro e w6 ⟨rfl, b6⟩
    go_wp2_with fail
    go_ret
    exact ⟨rfl, Below.next b5' b6⟩
  · have HB := Lib.hid (eq_false_of_ne_true hb)
    clear hb
    go_enter Tryd.func7, Tryd.ntmps7
    go_wp2_with fail
    refine (unhex_no (by omega) HB.out).mono ?_
    rintro e w1 ⟨rfl, b1⟩
    go_wp2_with fail
    refine (runhex_no (by omega) HB.out).mono ?_
    rintro e w2 ⟨rfl, b2⟩
    have b2' := Below.next b1 b2
    go_wp2_with fail
    refine (own_any _ (h1.next b2') (Nat.le_refl _) (by omega)).mono ?_
    rintro e w3 ⟨B3, d3, rfl, o3, b3⟩
    have b3' := Below.next b2' b3
    go_wp2_with fail
    refine (hex_any _ o3.rd (Nat.le_refl _) (hT.keep b3' hT.pos) (by omega)).mono ?_
    rintro e w4 ⟨rfl, b4⟩
    have b4' := Below.next b3' b4
    go_wp2_with fail
    refine (rhex_any _ (h1.next b4') (Nat.le_refl _) (by omega)).mono ?_
    rintro e w5 ⟨rfl, b5⟩
    have b5' := Below.next b4' b5
    go_wp2_with fail
    refine (same_nil _).mono ?_
    rintro e w5 ⟨rfl, rfl⟩
    go_wp2_with fail
    refine (awake_any _ (hT.keep b5' hT.pos)).mono ?_
    rintro e w6 ⟨rfl, b6⟩
    go_wp2_with fail
    go_ret
    exact ⟨rfl, Below.next b5' b6⟩
end Go.Proofs.YtebhefgfebghkaaDoor
