import Derived.Test.YtebhefgfebghkaaDoorW7
namespace Go.Proofs.YtebhefgfebghkaaDoor
open Go Go.RowKit
set_option maxHeartbeats 800000 in
theorem octetEquals_walk {A1 A2 : Option Addr} {c1 c2 : Nat} {xs ys : List UInt8} (w : World) (hT : Tab w) (h1 : Rd w w.heap.size A1 c1 xs) (h2 : Rd w w.heap.size A2 c2 ys)
    (l1 : xs.length ≤ 140737488351232) (l2 : ys.length ≤ 140737488351232) :
    Calls Tryd.prog 3 #[.slice A1 xs.length c1, .slice A2 ys.length c2] w fun e w' => e = .returned (.bool true) ∧ Below w.heap.size w w' := by
  have hs : sameB xs xs = true := sameB_iff.2 rfl
  go_enter Tryd.func3, Tryd.ntmps3
  go_wp2_with fail
  refine (own_any _ h1 (Nat.le_refl _) (by omega)).mono ?_
  rintro e w1 ⟨B1, d1, rfl, o1, b1⟩
  go_wp2_with fail
  refine (own_any _ (h2.keep b1) b1.size (by omega)).mono ?_
  rintro e w2 ⟨B2, d2, rfl, o2, b2⟩
  have b2' := b1.trans (b2.mono b1.size)
  go_wp2_with fail
  refine (equal_b _ (o1.rd.keep b2) o2.rd (by omega)).mono ?_
  rintro e w3 ⟨rfl, b3⟩
  have b3' := b2'.trans (b3.mono b2'.size)
  go_wp2_with fail
  refine (same_any _ (h1.keep b3') (h2.keep b3')).mono ?_
  rintro e w3 ⟨rfl, rfl⟩
  go_wp2_with fail
  refine (own_any _ (h1.keep b3') b3'.size (by omega)).mono ?_
  rintro e w4 ⟨B4, d4, rfl, o4, b4⟩
  have b4' := b3'.trans (b4.mono b3'.size)
  go_wp2_with fail
  refine (own_any _ (h1.keep b4') b4'.size (by omega)).mono ?_
  rintro e w5 ⟨B5, d5, rfl, o5, b5⟩
  have b5' := b4'.trans (b5.mono b4'.size)
  go_wp2_with fail
  refine (equal_b _ (o4.rd.keep b5) o5.rd (by omega)).mono ?_
  rintro e w6 ⟨rfl, b6⟩
  have b6' := b5'.trans (b6.mono b5'.size)
  go_wp2_with fail
  refine (awake_any _ (hT.keep b6' hT.pos)).mono ?_
  rintro e w7 ⟨rfl, b7⟩
  go_wp2_with fail
  go_ret
  exact ⟨rfl, b6'.trans (b7.mono b6'.size)⟩
end Go.Proofs.YtebhefgfebghkaaDoor
