import Derived.Test.YtebhefgfebghkaaDoorX3
namespace Go.Proofs.YtebhefgfebghkaaDoor
open Go Go.RowKit
/-- A call's end in a chain of worlds. -/
theorem Below.next {w a b : World} (h : Below w.heap.size w a) (k : Below a.heap.size a b) : Below w.heap.size w b := h.trans (k.mono h.size)
theorem rd_nil (w : World) (B : Nat) : Rd w B none 0 [] := ⟨by simp, fun _ => ⟨rfl, rfl⟩, fun h => absurd rfl h⟩
theorem same_yes {A1 A2 : Option Addr} {c1 c2 B1 B2 n: Nat} {xs ys : List UInt8} (w : World) (h1 : Rd w B1 A1 c1 xs) (h2 : Rd w B2 A2 c2 ys) (he : xs = ys) (hn : n = xs.length) :
    Calls Tryd.prog 14 #[.slice A1 n c1, .slice A2 n c2] w fun e w' => e = .returned (.bool true) ∧ w = w' := by
  subst he
  subst hn
  have := same_any w h1 h2
  rwa [sameB_iff.2 rfl] at this
theorem same_nil (w : World) : Calls Tryd.prog 14 #[.slice none 0 0, .slice none 0 0] w fun e w' => e = .returned (.bool true) ∧ w = w' :=
  same_yes w (rd_nil w 0) (rd_nil w 0) rfl rfl
theorem xorL_length (xs ys : List UInt8) : (xorL xs ys).length = xs.length := gen_length _ _
theorem Own.rd' {w : World} {B : Nat} {e : TypeId} {A : Option Addr} {c : Nat} {bs : List UInt8} (h : Own w B e A c bs) {W : World} (hb : Below w.heap.size w W) : Rd W W.heap.size A c bs := (h.rd.keep hb).mono hb.size
theorem Rd.next {w W : World} {A : Option Addr} {c : Nat} {bs : List UInt8} (h : Rd w w.heap.size A c bs) (hb : Below w.heap.size w W) : Rd W W.heap.size A c bs := (h.keep hb).mono hb.size

set_option maxHeartbeats 800000 in
theorem octetXors_walk {A1 A2 : Option Addr} {c1 c2 : Nat} {xs ys : List UInt8} (w : World) (hT : Tab w) (h1 : Rd w w.heap.size A1 c1 xs) (h2 : Rd w w.heap.size A2 c2 ys)
    (l1 : xs.length ≤ 140737488351232) (l2 : ys.length ≤ 140737488351232) :
    Calls Tryd.prog 4 #[.slice A1 xs.length c1, .slice A2 ys.length c2] w fun e w' => e = .returned (.bool true) ∧ Below w.heap.size w w' := by
  by_cases hn : xs.length = ys.length
  · have HN := Lib.hid hn
    clear hn
    go_enter Tryd.func4, Tryd.ntmps4
    go_wp2_with fail
    refine (own_any _ h1 (Nat.le_refl _) (by omega)).mono ?_
    rintro e w1 ⟨B1, d1, rfl, o1, b1⟩
    go_wp2_with fail
    refine (own_any _ (h2.keep b1) b1.size (by omega)).mono ?_
    rintro e w2 ⟨B2, d2, rfl, o2, b2⟩
    have b2' := Below.next b1 b2
    go_wp2_with fail
    refine (xor_good _ (o1.rd' b2) o2.rd (Nat.le_refl _) (Nat.le_refl _) (by omega) HN.out).mono ?_
    rintro e w3 ⟨B3, d3, rfl, o3, b3⟩
    have b3' := Below.next b2' b3
    go_wp2_with fail
    refine (rxor_good _ (h1.next b3') (h2.next b3') (Nat.le_refl _) (Nat.le_refl _) (by omega) HN.out).mono ?_
    rintro e w4 ⟨B4, d4, rfl, o4, b4⟩
    have b4' := Below.next b3' b4
    go_wp2_with fail
    refine (same_yes _ (o3.rd' b4) o4.rd rfl (xorL_length _ _).symm).mono ?_
    rintro e w4 ⟨rfl, rfl⟩
    go_wp2_with fail
    refine (same_yes _ ((o1.rd' b2).next (Below.next b3 b4)) (h1.next b4') rfl rfl).mono ?_
    rintro e w4 ⟨rfl, rfl⟩
    go_wp2_with fail
    refine (same_yes _ (o2.rd' (Below.next b3 b4)) (h2.next b4') rfl rfl).mono ?_
    rintro e w4 ⟨rfl, rfl⟩
    go_wp2_with fail
    refine (awake_any _ (hT.keep b4' hT.pos)).mono ?_
    rintro e w7 ⟨rfl, b7⟩
    go_wp2_with fail
    go_ret
    exact ⟨rfl, Below.next b4' b7⟩
  · go_enter Tryd.func4, Tryd.ntmps4
    go_wp2_with fail
    refine (own_any _ h1 (Nat.le_refl _) (by omega)).mono ?_
    rintro e w1 ⟨B1, d1, rfl, o1, b1⟩
    go_wp2_with fail
    refine (own_any _ (h2.keep b1) b1.size (by omega)).mono ?_
    rintro e w2 ⟨B2, d2, rfl, o2, b2⟩
    have b2' := Below.next b1 b2
    go_wp2_with fail
    refine (xor_bad _ hn).mono ?_
    rintro e w2 ⟨rfl, rfl⟩
    go_wp2_with fail
    refine (rxor_bad _ hn).mono ?_
    rintro e w2 ⟨rfl, rfl⟩
    go_wp2_with fail
    refine (same_nil _).mono ?_
    rintro e w2 ⟨rfl, rfl⟩
    go_wp2_with fail
    refine (same_yes _ (o1.rd' b2) (h1.next b2') rfl rfl).mono ?_
    rintro e w2 ⟨rfl, rfl⟩
    go_wp2_with fail
    refine (same_yes _ o2.rd (h2.next b2') rfl rfl).mono ?_
    rintro e w2 ⟨rfl, rfl⟩
    go_wp2_with fail
    refine (awake_any _ (hT.keep b2' hT.pos)).mono ?_
    rintro e w7 ⟨rfl, b7⟩
    go_wp2_with fail
    go_ret
    exact ⟨rfl, Below.next b2' b7⟩
end Go.Proofs.YtebhefgfebghkaaDoor
